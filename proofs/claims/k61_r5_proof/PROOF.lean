import PyProof.Rows.All
import Wide.All
import OpenK.AllK
import Wide.FinOn
import KE.KStateDown
import HandS.ForMost
import HandS.Defaults
import HandS.Head0
import HandS.Head1
import HandS.Head2
import HandS.HeadEnd
import HandS.HeadHook1
import HandS.HeadHook2
import PySem.Challenge.RW_editionlines_k61_notes_written_and_read
import HandS.Exc
import HandS.ExcOwn
import HandS.ExcInit
import KE.KExcIs
import HandS.ExcValue
import HandS.ExcField
import HandS.IsInst
import HandS.ExcIs
import HandS.MakeKw
import HandS.MakeKwOnly
import HandS.Property
import HandS.Lambda
import HandS.EndTab
import HandS.HeadHook3
import HandS.HeadHook4
import HandS.HeadWalk
import HandS.HeadNt
import PyProof.ReprRoads
import HandS.TupMul
import HandS.Iter
import PyProof.Rows.FactsN_isinstance
import HandS.Walk
import HandS.Text
import PyProof.Rows.SeqGen
import HandS.More
import HandS.Star
import HandS.Flow
import HandS.CallLocal
import HandS.TupLe
import PyProof.Rows.StrRevDown
import PyProof.Rows.StrMeet
import KE.KCallOwn
import KE.KFmtOwn
import HandS.ClsMeth
import HandS.TupAny
import OpenK.KOps
import OpenK.KMeth
import PyProof.LookupFast
import PyProof.InstEq
import HandS.DictComp
import HandS.RaiseMore
import HandS.Sort
import HandS.WordsDict
import KE.KStar
import KE.KOwnIter
import PyProof.TupleIter
import PyProof.Rows.Range3
import HandS.Small
import HandS.IterNext
import HandS.List
import KE.KOpsOwn
import HandS.Nested
import PyProof.Rows.TupMore
import HandS.ForExc
import HandS.TryMany
import HandS.TryOnly
import PyProof.WalksMore
import PyProof.CollectIter
import HandS.FStr
import HandS.OwnIter
import HandS.Style
import HandS.OwnEq
import PyProof.NeKinds
import PyProof.P3Eq
import PyProof.StrLawsRepr
import HandS.Words
import HandS.WordsExc
set_option Elab.async false
set_option linter.all false
set_option maxRecDepth 100000
set_option maxHeartbeats 0
namespace K7
open PySem PySem.Spec PyProof.Rows L2
abbrev prog : Program := PySem.Challenge.pw_editionlines_k61_notes_written_and_read
def top (i : Nat) : Stmt := prog.main.body.getD i (.Pass ⟨0, 0, 0, 0⟩)
end K7
set_option Elab.async false
set_option linter.all false
set_option maxRecDepth 100000
set_option maxHeartbeats 4000000
/-! An own exception class over ValueError, called with keywords: at the library's level. -/
namespace EKw
open PySem PySem.HandSPX Builtin Builtin.ObjectAttr
section
variable {M : Model} {prog : Program} {w : World} {A : Around} {E : Value → Shared → Prop}
  {R : Result → Shared → Prop} {hp : Heap} {gs : Array GenState} {dr : Drawn} {tk : Nat} {os : OsState}
variable {nm q : Str} {C N : Addr} {bs bm : List Value} {hdct : Bool} {sn : List Str} {sub : List Value}
  {ab : Bool} {col : Option Bool} {dd : Option Addr} {k0 k1 k2 k3 k5 : Option Value}
abbrev clsO (nm q : Str) (C N : Addr) (bs bm : List Value) (hdct : Bool) (sn : List Str) (sub : List Value)
    (ab : Bool) (col : Option Bool) (dd : Option Addr) (k0 k1 k2 k3 k5 : Option Value) : Obj :=
  excClassObj nm q C N bs bm hdct sn sub ab col dd k0 k1 k2 k3 k5 "ValueError.__new__"
theorem checkNewKw (hbm : refsVE bm = true) {us : List Value} {kw : List (Str × Value)} {Q : Unit → Shared → Prop}
    (hC : hp.get? C = some (clsO nm q C N bs bm hdct sn sub ab col dd k0 k1 k2 k3 k5)) (hq : Q () ⟨hp, gs, dr, tk, os⟩) :
    wpAny M A (checkBuiltinCall "ValueError.__new__" ⟨.ref C :: us, kw⟩) Q E ⟨hp, gs, dr, tk, os⟩ := by
  have e1 : (Value.ref C :: bm).contains (.type "ValueError") = true := by
    rw [List.contains_cons, refsVE_contains _ bm hbm]; simp
  have e2 := F.excBase_ValueError.noStar
  simp only [checkBuiltinCall, F.excBase_ValueError.newKind, F.excBase_ValueError.newSplit, F.excBase_ValueError.newRow]
  repeat (first
    | refine wpAny_loadPart_at hC ?_
    | (refine wpAny_isSubtype_exc hC ?_; rw [e1])
    | refine wpAny_staticBase_exc hC ?_
    | refine wpAny_madeBy_exc hC ?_
    | simp only [bne_self_eq_false, Bool.false_eq_true, if_false]
    | wp_step)
  all_goals exact hq
theorem newKw (hbm : refsVE bm = true) {us : List Value} {kw : List (Str × Value)}
    (hC : hp.get? C = some (clsO nm q C N bs bm hdct sn sub ab col dd k0 k1 k2 k3 k5)) (hz : us.length ≤ sizeLine)
    (hq : R (.ok (.ret (.ref (hp.objs.size + 1)))) ⟨(hp.push (W.kdv_tup us)).push (excO C hp.objs.size), gs, dr, tk, os⟩) :
    codeAny (model prog w) A (.builtin "ValueError.__new__" ⟨.ref C :: us, kw⟩) R ⟨hp, gs, dr, tk, os⟩ := by
  have e0 := F.excBase_ValueError.ends
  have has : ∀ X : String, (Value.ref C :: bm).contains (.type X) = veTail.contains (.type X) := fun X => by
    rw [List.contains_cons, refsVE_contains _ bm hbm]
    rfl
  have e1 := (has "ValueError").trans (by decide : _ = true)
  have e2 := (has "AttributeError").trans (by decide : _ = false)
  have e3 := (has "NameError").trans (by decide : _ = false)
  refine codeAny_builtinAt F.excBase_ValueError.entry ?_
  unfold Builtin.«BaseException.__new__»
  refine wpAt_bind ?_
  show wpAt _ _ _ (stack >>= _) _ _ _
  refine wpAt_bind (wpAt_stack fun p below => wpAt_of_wpAny ?_)
  wp_walk
  refine wpAt_of_wpAny ?_
  rw [F.excBase_ValueError.owner]
  repeat (first
    | with_reducible refine wpAny_madeHere_exc F.excBase_ValueError.canon hC ?_
    | with_reducible refine wpAny_loadPart_at hC ?_
    | (with_reducible refine wpAny_isSubtype_exc hC ?_; first | rw [e1] | rw [e2] | rw [e3])
    | wp_step)
  show R _ _
  rw [Heap.size_push]
  exact hq
theorem typeCallKw (hbm : refsVE bm = true) {us : List Value} {kw : List (Str × Value)} {fI : Addr} {Q : Fin → Shared → Prop}
    (hC : hp.get? C = some (clsO nm q C N bs bm hdct sn sub ab col dd k0 k1 k2 k3 k5))
    (hi : W.Looks (model prog w) hp (typeLookup (.ref C) "__init__") (some (.ref fI)))
    (hb : ∀ self, W.Looks (model prog w) hp (bindSpecial (.ref fI) self) (.ref fI, [self])) (hz : us.length ≤ sizeLine)
    (hq : codeAny (model prog w) A (.call (.ref fI) ⟨.ref (hp.objs.size + 1) :: us, kw⟩)
      (fun r s' => match r with
        | .ok (.ret v) => v = .none ∧ Q (.done (.ret (.ref (hp.objs.size + 1)))) s'
        | .ok _ => False
        | .error e => E e s')
      ⟨(hp.push (W.kdv_tup us)).push (excO C hp.objs.size), gs, dr, tk, os⟩) :
    wpAny (model prog w) A (Builtin.«type.__call__» ⟨.ref C :: us, kw⟩) Q E ⟨hp, gs, dr, tk, os⟩ := by
  repeat (first
    | with_reducible refine wpAny_loadPart_at hC ?_
    | with_reducible refine wpAny_madeBy_exc hC ?_
    | wp_step)
  refine codeAny_call_builtin_code (Code.quiet_builtin _ F.excBase_ValueError.quiet) (checkNewKw hbm hC ?_)
  refine newKw hbm hC hz ?_
  show wpAny _ _ _ _ _ _
  have kk : ∀ b o, hp.get? b = some o → ((hp.push (W.kdv_tup us)).push (excO C hp.objs.size)).get? b = some o :=
    fun b o e => Heap.get?_push_of_some _ (Heap.get?_push_of_some _ e)
  have hC2 := kk _ _ hC
  have hnew : ((hp.push (W.kdv_tup us)).push (excO C hp.objs.size)).get? (hp.objs.size + 1) = some (excO C hp.objs.size) := by
    heap_get
  have hself : (Value.ref C :: bm).contains (.ref C) = true := by simp
  have i2 := hi.keeps kk
  have b2 := (hb (.ref (hp.objs.size + 1))).keeps kk
  unfold isInstance
  repeat (first
    | with_reducible refine wpAny_loadPart_at hnew ?_
    | (with_reducible refine wpAny_isSubtype_exc hC2 ?_; rw [hself])
    | wp_step)
  show wpAny _ _ (typeLookup (.ref C) _) _ _ _
  refine i2.at (wpAny_holding (wpAny_bind (b2.at ?_)))
  refine wpAny_bind (wpAny_call (codeAny_mono hq fun r s' z => ?_))
  rcases r with e | (v | _ | _ | _) <;> first
    | exact z
    | exact z.elim
    | (obtain ⟨rfl, z⟩ := z; first
        | exact wpAny_pure (wpAny_pure z)
        | (wp_walk; exact z))
theorem callKw (hbm : refsVE bm = true) {us : List Value} {kw : List (Str × Value)} {fI : Addr}
    (hC : hp.get? C = some (clsO nm q C N bs bm hdct sn sub ab col dd k0 k1 k2 k3 k5))
    (hi : W.Looks (model prog w) hp (typeLookup (.ref C) "__init__") (some (.ref fI)))
    (hb : ∀ self, W.Looks (model prog w) hp (bindSpecial (.ref fI) self) (.ref fI, [self])) (hz : us.length ≤ sizeLine)
    (hq : codeAny (model prog w) (A.under (.builtin "type.__call__" ⟨.ref C :: us, kw⟩)) (.call (.ref fI) ⟨.ref (hp.objs.size + 1) :: us, kw⟩)
      (W.InitBack (hp.objs.size + 1) R) ⟨(hp.push (W.kdv_tup us)).push (excO C hp.objs.size), gs, dr, tk, os⟩) :
    codeAny (model prog w) A (.call (.ref C) ⟨us, kw⟩) R ⟨hp, gs, dr, tk, os⟩ := by
  have f1 := tc_lookup
  have f2 := tc_bind (.ref C)
  have hTy : (⟨hp, gs, dr, tk, os⟩ : Shared).TypeIs (.ref C) "type" := ⟨_, hC, rfl⟩
  refine codeAny_of_tree ?_
  show wpAny _ _ (callAny (.ref C) _) _ _ _
  repeat (any_goals (first
    | assumption
    | with_reducible refine wpAny_loadPart_at hC ?_
    | wp_step))
  refine ⟨rfl, ?_⟩
  refine codeAny_call_builtin_at (Code.quiet_builtin _ (by decide +kernel)) entry_typeCall
    (wpAny_check_type_call_sub hC (typeCallKw hbm hC hi hb hz ?_))
  refine codeAny_mono hq fun r s' z => ?_
  rcases r with e | (v | _ | _ | _) <;> exact z
end
end EKw
set_option Elab.async false
set_option linter.all false
set_option maxRecDepth 100000
set_option maxHeartbeats 4000000
/-! Own exceptions (over ValueError, with an __init__ of their own) held as values: made, their fields read, asked by isinstance. -/
namespace EV
open PySem PySem.Spec PyProof.Rows L2
/-- an error of the class at C stands at a; its dict at d holds fs -/
structure ErrAt (H : Hp) (a C d : Addr) (fs : List (Str × V)) : Prop where
  ob : H a = some (exo a C (some d))
  dc : H d = some (exd d fs)
/-- C(..), the class's own __init__ keeping sp, handed the values vs -/
def tErr (C : Addr) (sp : Sp) (gV : List V → List V) (E : XK) (t : TA) : TE := fun σ H Q => t σ H fun vs H1 => vs.length ≤ 1000 ∧
  ∀ a, H1 a = none → sp (.ref a :: gV vs) (upd H1 a (exo a C none)) (fun v H2 => v = .non ∧ Q (.ref a) H2) E
section
variable {X : Cx} {CX : CXT} {k n : Nat} {fI C : Addr} {fd : FuncData} {ps ks : List Str} {sp : Sp} {E : XK} {x : Str}
  {p pos : Pos} {e : Expr} {es : List Expr} {kws : List Keyword} {t tk : TA}
theorem run_err {pins : List (Addr × Obj)} {σ : L2.St} {H : Hp} {s : Shared} {Q : VK} {us bs : List Value} {kw : List (Str × Value)} {vs : List V}
    (T : OexC X.K C) (iC : PySem.W.findIn X.K (.ref C) "__init__" = some (some (.ref fI)))
    (tI : PySem.W.typeIn X.K (.ref fI) = some (.type "function"))
    (F1 : FnOk X.prog X.w X.K X.mg X.base CX k fI fd ps sp) (hr : Room (k + 1) X.A)
    (hb : ∀ (s' : Shared) (a : Addr), X.K.In s'.heap → BindsTo s' fd ⟨.ref a :: us, kw⟩ (ps.zip (.ref a :: bs)))
    (hx : Passes CX X E) (I : Inv X pins σ H s) (r : Vals vs bs) (hz : us.length ≤ sizeLine)
    (h : ∀ a, H a = none → sp (.ref a :: vs) (upd H a (exo a C none)) (fun v H2 => v = .non ∧ Q (.ref a) H2) E) :
    wpAny (model X.prog X.w) X.A (call (.ref C) us kw) (EP X pins σ Q) X.xe s := by
  obtain ⟨nm, q, N, bbs, bm, sn, sub, ab, col, dd, k0, k1, k2, k3, k5, hC, hbm⟩ := T.cls
  obtain ⟨hp, g, dr, tk, os⟩ := s
  have hsz : hp.objs.size ≤ hp.objs.size + 1 := Nat.le_succ _
  have hq := h (hp.objs.size + 1) (I.hok.fresh hsz)
  have kk : ∀ b o, hp.get? b = some o → ((hp.push (PySem.W.kdv_tup us)).push (PySem.HandSPX.excO C hp.objs.size)).get? b = some o :=
    fun b o z => Heap.get?_push_of_some _ (Heap.get?_push_of_some _ z)
  have hget : ((hp.push (PySem.W.kdv_tup us)).push (PySem.HandSPX.excO C hp.objs.size)).get? (hp.objs.size + 1) = some (PySem.HandSPX.excO C hp.objs.size) := by
    heap_get
  have I2 := I.laid (t' := tk) (a := hp.objs.size + 1) (o := exo (hp.objs.size + 1) C none) kk hsz (exo_ok hget)
  have r2 : Vals (V.ref (hp.objs.size + 1) :: vs) (Value.ref (hp.objs.size + 1) :: bs) := .cons rfl r
  refine wpAny_call (EKw.callKw hbm (I.kIn _ _ hC) (PySem.W.looks_findIn I.kIn iC) (fun self => PySem.W.bind_fn I.kIn self tI) hz
    (codeAny_mono (F1.run _ X.stack _ _ ⟨Value.ref (hp.objs.size + 1) :: us, kw⟩ _ _ _ E (hr.make C us kw)
      (I2.env0.make C us kw) (hb _ _ I2.kIn) r2 hq) fun r s' hq' => ?_))
  cases r with
  | error er => exact hx pins σ _ _ er s' I2 hq'
  | ok fl =>
    cases fl with
    | ret u =>
      obtain ⟨v, H', I3, rv, ev, q3⟩ := I2.after hq'
      subst ev
      exact ⟨rv, V.ref (hp.objs.size + 1), H', I3, rfl, q3⟩
    | _ => exact False.elim hq'
/-- C(e, ..) -/
theorem pe_err (T : OexC X.K C) (iC : PySem.W.findIn X.K (.ref C) "__init__" = some (some (.ref fI)))
    (tI : PySem.W.typeIn X.K (.ref fI) = some (.type "function"))
    (F1 : FnOk X.prog X.w X.K X.mg X.base CX k fI fd ps sp) (hr : Room (k + 1) X.A) (hb : Binds X.K fd ps []) (hx : Passes CX X E)
    (hg : Gl X x) (hm : X.mg x = some (.ref C)) (ha : PA X (e :: es) t)
    (hdb : (x == ("__debug__" : Str)) = false := by decide)
    (he : starEach (e :: es) X.env = (false, eval e X.env) :: starEach es X.env := by rfl)
    (hpl : (backTo pos (starEach es X.env)).any (·.1) = false := by rfl) :
    PE X (.Call (.Name x p) (e :: es) [] pos) (tErr C sp (fun vs => vs) E t) := by
  refine ⟨fun pins s σ H Q I h => ?_⟩
  refine wpAny_Call_Name_kw (ld_glob I hg hm ?_ hdb)
  refine PySem.W.callWith_K (h₀ := X.base) I.ok.mod.kin T.kC (thn (ha.run pos pins s σ H _ I h) fun us s1 ⟨vs, H1, I1, r1, hz, q1⟩ => ⟨I1.kIn, ?_⟩) he hpl
  show wpAny _ _ (call (.ref C) us) _ _ _
  have hl : vs.length = us.length := r1.length
  refine run_err T iC tI F1 hr (fun s' a X' => ?_) hx I1 r1 ?_ q1
  · have hn := F1.len _ _ _ _ (q1 _ (I1.hok.fresh (Nat.le_refl _)))
    have z := hb s' (.ref a :: us) X' (by
      rw [List.append_nil, ← hn, List.length_cons, List.length_cons, hl])
    rw [List.append_nil] at z
    exact z
  · rw [← hl, sizeLine_eq]
    omega
/-- C(f = e, ..), no argument by position -/
theorem pe_errK {g : List Value → List Value → List Value} {gV : List V → List V → List V} (T : OexC X.K C)
    (iC : PySem.W.findIn X.K (.ref C) "__init__" = some (some (.ref fI)))
    (tI : PySem.W.typeIn X.K (.ref fI) = some (.type "function"))
    (F1 : FnOk X.prog X.w X.K X.mg X.base CX k fI fd ps sp) (hr : Room (k + 1) X.A) (hx : Passes CX X E)
    {gk : List Value → List Value} {gv : List V → List V}
    (hb : ∀ (s' : Shared) (a : Addr) (ws : List Value), X.K.In s'.heap → ws.length = ks.length → BindsTo s' fd ⟨[.ref a], ks.zip ws⟩ (ps.zip (.ref a :: gk ws)))
    (hgv : ∀ {zs : List V} {ws : List Value}, zs.length = ks.length → Vals zs ws → Vals (gv zs) (gk ws))
    (hg : Gl X x) (hm : X.mg x = some (.ref C)) (hkw : PK X kws tk)
    (hall : (backToKw pos (keywordEach kws X.env)).all (·.1.isSome) = true := by rfl)
    (hks : (backToKw pos (keywordEach kws X.env)).filterMap (·.1) = ks := by rfl)
    (hdb : (x == ("__debug__" : Str)) = false := by decide)
    (hpl : ((backTo pos (starEach [] X.env)).any (·.1) || (backToKw pos (keywordEach kws X.env)).any (·.1.isNone)) = false := by rfl) :
    PE X (.Call (.Name x p) [] kws pos) (fun σ H Q => tk σ H fun zs H1 => zs.length = ks.length ∧
      ∀ a, H1 a = none → sp (.ref a :: gv zs) (upd H1 a (exo a C none)) (fun v H2 => v = .non ∧ Q (.ref a) H2) E) := by
  refine ⟨fun pins s σ H Q I h => ?_⟩
  refine wpAny_Call_Name_kw (ld_glob I hg hm ?_ hdb)
  refine PySem.W.callWith_KW0 (h₀ := X.base) I.ok.mod.kin T.kC hall ?_ hpl
  refine thn (hkw.run pos pins s σ H _ I h) fun ws s2 ⟨zs, H2, I2, rz, l2, q2⟩ => ⟨I2.kIn, ?_⟩
  rw [hks]
  have hl : zs.length = ws.length := rz.length
  exact run_err T iC tI F1 hr (fun s' a X' => hb s' a ws X' (by rw [← hl, l2])) hx I2 (hgv l2 rz) (Nat.zero_le _) q2
end
/-! ### a field is read -/
def tEf (K : PySem.W.Frag) (te : TE) (f : Str) : TE := fun σ H Q => te σ H fun x H1 => ∃ a C d fs v, x = .ref a ∧ ErrAt H1 a C d fs ∧ XfC K C ∧
  PySem.W.findIn K (.ref C) f = some none ∧ fs.lookup f = some v ∧ Q v H1
theorem inst_of {X : Cx} {pins : List (Addr × Obj)} {σ : L2.St} {H : Hp} {s : Shared} {a C d : Addr} {fs : List (Str × V)} (I : Inv X pins σ H s) (r : ErrAt H a C d fs) :
    ∃ (ox od : Obj) (mA : Str → Option Value), PySem.W.InstAt s.heap a ox C (some od) ∧ s.heap.get? d = some od ∧ (∀ n, PySem.W.lookIn n od = some (mA n)) ∧ ∀ n, RelO (fs.lookup n) (mA n) := by
  obtain ⟨t1, ha⟩ := exo_at I.hok r.ob
  obtain ⟨mA, hns, rel⟩ := exd_at I.hok r.dc
  obtain ⟨od, ho, hl⟩ := lookIn_ns hns
  exact ⟨_, od, mA, ⟨ha, rfl, rfl, ho⟩, ho, hl, rel⟩
theorem pe_ef {X : Cx} {e : Expr} {te : TE} {pos : Pos} {f : Str} (he : PE X e te) (hb : attributeBase e f X.env (eval e X.env) = eval e X.env := by rfl) :
    PE X (.Attribute e f pos) (tEf X.K te f) := by
  refine ⟨fun pins s σ H Q I h => ?_⟩
  refine attr_of hb (thn (he.run pins s σ H _ I h) fun u s1 hh => ?_)
  obtain ⟨x, H1, I1, rx, a, C, d, fs, v, ex, r, T, hno, l, q⟩ := hh
  subst ex
  obtain rfl : u = Value.ref a := rx
  obtain ⟨ox, od, mA, J, ho, hl, rel⟩ := inst_of I1 r
  obtain ⟨w, hw, rw'⟩ := RelO.some_of (v := v) (o := mA f) (by rw [← l]; exact rel f)
  exact HandSPX.exc_get I1.kIn J T.ga T.gg T.exC (PySem.W.findObj_own T.hdC hno rfl (by rw [hl, hw])) (handed_of rw') ⟨v, H1, I1.tok _, rw', q⟩
/-! ### isinstance -/
/-- an error of the class at C: with an own dict, or without -/
def IsErr (H : Hp) (a C : Addr) : Prop := (∃ d fs, ErrAt H a C d fs) ∨ H a = some (ExO (.ref C) a)
theorem kit_err {X : Cx} {pins : List (Addr × Obj)} {σ : L2.St} {H : Hp} {s : Shared} {a C : Addr} (I : Inv X pins σ H s) (r : IsErr H a C) (T : L2.ExcC X.K C) :
    ∃ P : Heap → Prop, PySem.W.KitX X.K (.ref a) (.ref C) P ∧ P s.heap := by
  have hcl : (PySem.W.clsIn X.K C).isSome = true := by
    obtain ⟨cd, hc, _⟩ := PySem.W.any_some T.hd
    rw [hc]
    rfl
  rcases r with ⟨d, fs, r⟩ | r
  · obtain ⟨ox, od, mA, J, _⟩ := inst_of I r
    exact ⟨_, PySem.W.kitx_exc hcl T.hg T.hk T.hs T.ha T.hn T.ht T.hm, J⟩
  · obtain ⟨⟨oe, vs, ho, hz, hd, _⟩, _, _⟩ := I.hok a _ r
    refine ⟨_, PySem.W.kitx_exc (ox := oe) (od := none) hcl T.hg T.hk T.hs T.ha T.hn T.ht T.hm, ?_⟩
    obtain ⟨oc, od, oda, osl⟩ := oe
    obtain ⟨h1, h2⟩ := hz
    dsimp only at h1 h2 hd
    subst h1 h2 hd
    exact ⟨ho, rfl, rfl, trivial⟩
def rIsErr (K : PySem.W.Frag) : List V → Hp → VK → Prop := fun xs H Q => ∃ (a C : Addr) (c : V) (u : Value) (b : Bool), xs = [.ref a, c] ∧ IsErr H a C ∧ L2.ExcC K C ∧ ClsV c u ∧
  PySem.W.kitOne K (.ref C) u = some b ∧ Q (.bl b) H
def rIsErrT (K : PySem.W.Frag) : List V → Hp → VK → Prop := fun xs H Q => ∃ (a C tp : Addr) (cs : List V) (us : List Value) (b : Bool), xs = [.ref a, .ref tp] ∧ IsErr H a C ∧ L2.ExcC K C ∧
  H tp = some (.tup cs) ∧ Paired ClsV cs us ∧ PySem.W.kitAny K (.ref C) us = some b ∧ Q (.bl b) H
theorem call_isErr {X : Cx} : CallR X (.builtin "isinstance") (rIsErr X.K) := by
  intro pins s σ H xs us Q I r h
  obtain ⟨a, C, c, u, b, rfl, hi, T, k, e, q⟩ := h
  obtain ⟨u1, u2, rfl, r1, r2⟩ := vals2 r
  have e2 := k.eq r2
  subst e2
  cases (show u1 = Value.ref a from r1)
  obtain ⟨P, Z, p⟩ := kit_err I hi T
  exact PySem.W.kia_one Z I.kIn p e (fun z => nomatch z) fun tk => ⟨.bl b, H, I.tok tk, rfl, q⟩
theorem call_isErrT {X : Cx} : CallR X (.builtin "isinstance") (rIsErrT X.K) := by
  intro pins s σ H xs us Q I r h
  obtain ⟨a, C, tp, cs, ws, b, rfl, hi, T, hT, k, e, q⟩ := h
  obtain ⟨u1, u2, rfl, r1, r2⟩ := vals2 r
  cases (show u1 = Value.ref a from r1)
  cases (show u2 = Value.ref tp from r2)
  obtain ⟨P, Z, p⟩ := kit_err I hi T
  obtain ⟨_, its, rv, o, h1, h2, n, h3⟩ := (show ObjOk X.prog X.w H s.heap tp (.tup cs) from I.hok tp _ hT)
  have e3 := ClsV.all k rv
  subst e3
  obtain ⟨oc, od, dt, sl⟩ := o
  simp only at h2 h3
  subst h2 h3
  exact PySem.W.kia_tup Z I.kIn p h1 e (fun z => nomatch z) fun tk => ⟨.bl b, H, I.tok tk, rfl, q⟩
end EV
set_option Elab.async false
set_option linter.all false
set_option maxRecDepth 100000
set_option maxHeartbeats 4000000
/-! What the written part must say of own exception classes, as one Bool; a Hook by any Bool. -/
namespace EF
open PySem PySem.Spec PyProof.Rows L2 EV He
abbrev veT : List Value := [.type "ValueError", .type "Exception", .type "BaseException", .type "object"]
def clsShape (K : PySem.W.Frag) (C : Addr) (bm : List Value) : Bool := match K.lookup C with
  | some ⟨.type "type", _, .cls cd, sl⟩ => decide (cd.mro = .ref C :: bm) && (cd.hasDict && (!cd.hasDel && (match sl.toList with
    | [_, _, _, _, some (.builtin n), _] => n == "ValueError.__new__"
    | _ => false)))
  | _ => false
theorem clsShape_ok {K : PySem.W.Frag} {C : Addr} {bm : List Value} (h : clsShape K C bm = true) :
    ∃ nm q N bs sn sub ab col dd k0 k1 k2 k3 k5, K.lookup C = some (excClassObj nm q C N bs bm true sn sub ab col dd k0 k1 k2 k3 k5 "ValueError.__new__") := by
  unfold clsShape at h
  split at h
  · rename_i dd cd sl ho
    obtain ⟨h1, h⟩ := ba h
    obtain ⟨h2, h⟩ := ba h
    obtain ⟨h3, h4⟩ := ba h
    split at h4
    · rename_i k0 k1 k2 k3 n k5 hs
      obtain ⟨nm, bs, mro, ns, qn, hd, sn, sub, ab, col, del⟩ := cd
      have e1 : mro = .ref C :: bm := of_decide_eq_true h1
      have e2 : hd = true := h2
      have e3 : del = false := by simpa using h3
      have e4 : n = "ValueError.__new__" := beq_iff_eq.mp h4
      have e5 : sl = #[k0, k1, k2, k3, some (.builtin n), k5] := by
        obtain ⟨l⟩ := sl
        simp only at hs
        rw [hs]
      subst e1 e2 e3 e4 e5
      exact ⟨nm, qn, ns, bs, sn, sub, ab, col, dd, k0, k1, k2, k3, k5, ho⟩
    · cases h4
  · cases h
/-- the classes above x, own ones, then ValueError's -/
abbrev above (K : PySem.W.Frag) (bs : List Str) : List Value := bs.map (fun b => Value.ref (ga K b)) ++ veT
def errB (K : PySem.W.Frag) (x : Str) (bs : List Str) : Bool :=
  clsShape K (ga K x) (above K bs) && (eqO (PySem.W.findIn K (.ref (ga K x)) "__setattr__") (some (some (.builtin "object.__setattr__"))) &&
  (eqO (PySem.W.findIn K (.ref (ga K x)) "__getattribute__") (some (some (.builtin "BaseException.__getattribute__"))) &&
  (eqO (PySem.W.findIn K (.ref (ga K x)) "__getattr__") (some none) && (PySem.W.keepIn K (.ref (ga K x)) &&
  (eqO (PySem.W.findIn K (.ref (ga K x)) "__class__") (some (some (.builtin "object.__class__"))) && eqO (PySem.W.nsIn K mainGlobals x) (some (some (.ref (ga K x)))))))))
structure ErrK (K : PySem.W.Frag) (x : Str) (bs : List Str) : Prop where
  ox : OexC K (ga K x)
  xf : XfC K (ga K x)
  ex : L2.ExcC K (ga K x)
  hc : (PySem.W.clsIn K (ga K x)).isSome = true
  sub : ∀ v, PySem.W.subIn K (.ref (ga K x)) v = some ((Value.ref (ga K x) :: above K bs).contains v)
  nm : PySem.W.nsIn K mainGlobals x = some (some (.ref (ga K x)))
/-- what isinstance asks of every object -/
def objB (K : PySem.W.Frag) : Bool := eqO (PySem.W.specialIn K (.builtin "object.__class__") "__get__") (some (some (.builtin "getset_descriptor.__get__"))) && decide (PySem.W.takesIn K (.builtin "object.__class__") = some true)
theorem refs_above {K : PySem.W.Frag} (bs : List Str) : PySem.HandSPX.refsVE (above K bs) = true := by
  induction bs with
  | nil => exact (by decide : PySem.HandSPX.refsVE veT = true)
  | cons b bs ih => exact ih
theorem errB_ok {K : PySem.W.Frag} {x : Str} {bs : List Str} (h : errB K x bs = true) (ho : objB K = true) : ErrK K x bs := by
  obtain ⟨h1, h⟩ := ba h
  obtain ⟨h2, h⟩ := ba h
  obtain ⟨h3, h⟩ := ba h
  obtain ⟨h4, h⟩ := ba h
  obtain ⟨h5, h⟩ := ba h
  obtain ⟨h6, h7⟩ := ba h
  obtain ⟨o1, o2⟩ := ba ho
  obtain ⟨nm, q, N, bbs, sn, sub, ab, col, dd, k0, k1, k2, k3, k5, hC⟩ := clsShape_ok h1
  have hcl : PySem.W.clsIn K (ga K x) = some { name := nm, bases := bbs, mro := .ref (ga K x) :: above K bs, ns := N, qualname := q, hasDict := true, slotNames := sn, subclasses := sub, abstract := ab, collection := col, hasDel := false } := by
    unfold PySem.W.clsIn
    rw [hC] <;> rfl
  have hsub : ∀ v, PySem.W.subIn K (.ref (ga K x)) v = some ((Value.ref (ga K x) :: above K bs).contains v) := fun v => by
    show PySem.W.mroIn K (ga K x) v = _
    unfold PySem.W.mroIn
    rw [hcl]
    rfl
  have hbase : PySem.W.subIn K (.ref (ga K x)) (.type "BaseException") = some true := by
    rw [hsub, List.contains_cons, PySem.HandSPX.refsVE_contains _ _ (refs_above bs)]
    rfl
  have hobj : PySem.W.mroIn K (ga K x) (.type "object") = some true := by
    have e := hsub (.type "object")
    rw [List.contains_cons, PySem.HandSPX.refsVE_contains _ _ (refs_above bs)] at e
    exact e.trans rfl
  have hty : PySem.W.typeIn K (.ref (ga K x)) = some (.type "type") := by
    show (K.lookup (ga K x)).map (·.cls) = _
    rw [hC] <;> rfl
  have hd : PySem.W.hasDictIn K (ga K x) = true := by
    unfold PySem.W.hasDictIn
    rw [hcl] <;> rfl
  exact ⟨⟨⟨nm, q, N, bbs, above K bs, sn, sub, ab, col, dd, k0, k1, k2, k3, k5, hC, refs_above bs⟩, eqO_ok h2, hbase, hty, h5⟩,
    ⟨eqO_ok h3, eqO_ok h4, hbase, hd⟩, ⟨eqO_ok h3, eqO_ok h4, hbase, hd, eqO_ok h6, eqO_ok o1, of_decide_eq_true o2, hobj⟩, by rw [hcl]; rfl, hsub, eqO_ok h7⟩
theorem veT_ref (c : Addr) : veT.contains (.ref c) = false := by
  simp [List.contains_cons]
theorem contains_refs {K : PySem.W.Frag} (bs : List Str) (c : Addr) : (above K bs).contains (.ref c) = decide (c ∈ bs.map (ga K)) := by
  induction bs with
  | nil => exact (veT_ref c).trans (by simp)
  | cons b bs ih =>
    show (Value.ref (ga K b) :: above K bs).contains (.ref c) = _
    rw [List.contains_cons, ih]
    by_cases e : c = ga K b
    · subst e
      simp
    · have e2 : (Value.ref c == Value.ref (ga K b)) = false := by
        rw [beq_eq_false_iff_ne]
        intro z
        exact e (Value.ref.inj z)
      rw [e2]
      simp [e]
/-- isinstance of an error of the class x against the class y -/
theorem kit {K : PySem.W.Frag} {x y : Str} {bs cs : List Str} (X : ErrK K x bs) (Y : ErrK K y cs) :
    PySem.W.kitOne K (.ref (ga K x)) (.ref (ga K y)) = some (decide (ga K y = ga K x ∨ ga K y ∈ bs.map (ga K))) := by
  unfold PySem.W.kitOne
  by_cases e : ga K y = ga K x
  · rw [e, if_pos (by simp)]
    simp
  · have ne : (Value.ref (ga K x) == Value.ref (ga K y)) = false := by
      rw [beq_eq_false_iff_ne]
      intro z
      exact e (Value.ref.inj z).symm
    rw [ne, if_neg Bool.false_ne_true]
    unfold PySem.W.kitCls
    have t : ((PySem.W.clsIn K (ga K y)).isSome && PySem.W.typeIn K (.ref (ga K y)) == some (.type "type")) = true := by
      rw [Y.hc, Y.ox.tyC]
      rfl
    show (if ((PySem.W.clsIn K (ga K y)).isSome && PySem.W.typeIn K (.ref (ga K y)) == some (.type "type")) = true then _ else _) = _
    rw [if_pos t, X.sub, List.contains_cons, contains_refs]
    have e3 : (Value.ref (ga K y) == Value.ref (ga K x)) = false := by
      rw [beq_eq_false_iff_ne]
      intro z
      exact e (Value.ref.inj z)
    rw [e3, Bool.false_or]
    simp [e]
/-- .. against a built-in class -/
theorem kitT {K : PySem.W.Frag} {x : Str} {bs : List Str} (X : ErrK K x bs) {T : String} (hm : PySem.W.kitMeta T = true) :
    PySem.W.kitOne K (.ref (ga K x)) (.type T) = some (veT.contains (.type T)) := by
  unfold PySem.W.kitOne
  rw [if_neg (fun z => nomatch (beq_iff_eq.mp z : Value.ref _ = Value.type _))]
  show (if PySem.W.kitMeta T = true then PySem.W.subIn K (.ref (ga K x)) (.type T) else none) = _
  rw [if_pos hm, X.sub, List.contains_cons, PySem.HandSPX.refsVE_contains _ _ (refs_above bs)]
  rfl
/-! ### a Hook by a Bool -/
def obsX (ck : PySem.W.Frag → Bool) (fn : List DefD) (K : PySem.W.Frag) : AlD := (ck K && fn.all fun d => d.ok K, fn.map fun d => fnW K d.at_)
def SaysX (ck : PySem.W.Frag → Bool) (fn : List DefD) (K : PySem.W.Frag) : Prop := obsX ck fn K = valD fn
def obsXG (n : Nat) (ck : PySem.W.Frag → Bool) (fn : List DefD) (g : Addr → Option Obj) : AlD := obsX ck fn (frG g (asD g n))
def hookX (n : Nat) (ck : PySem.W.Frag → Bool) (fn : List DefD) : PySem.W.Hook where
  α := AlD
  obs := fun s => obsXG n ck fn s.heap.get?
  val := fun _ => valD fn
  says := fun _ h => ∃ K : PySem.W.Frag, K.In h ∧ SaysX ck fn K
  of := fun _ _ e => ⟨_, frG_in, e⟩
  keeps := fun _ _ _ ⟨K, hK, c⟩ k => ⟨K, PySem.W.Frag.In.keeps hK k, c⟩
theorem obsXG_eq {n : Nat} {ck : PySem.W.Frag → Bool} {fn : List DefD} {g : Addr → Option Obj} {s : Shared} (h : ∀ a, g a = s.heap.get? a) : obsXG n ck fn g = (hookX n ck fn).obs s := by
  rw [show g = s.heap.get? from funext h]
  rfl
section
variable {ck : PySem.W.Frag → Bool} {fn : List DefD} {K : PySem.W.Frag}
theorem SaysX.chk (c : SaysX ck fn K) : ck K = true := (ba (congrArg (fun z : AlD => z.1) c : (ck K && fn.all fun d => d.ok K) = true)).1
theorem SaysX.def_ (c : SaysX ck fn K) (i : Nat) {d : DefD} (h : fn[i]? = some d := by rfl) : ∃ fd, FunD K d.name d.qual d.params d.body d.scope (d.dvs K) (d.kws K) (fAd K d.at_) fd := by
  have c2 := (ba (congrArg (fun z : AlD => z.1) c : (ck K && fn.all fun d => d.ok K) = true)).2
  have e : fn.map (fun d => fnW K d.at_) = fn.map DefD.val := congrArg (fun z : AlD => z.2) c
  have e2 : (fn.map fun d => fnW K d.at_)[i]? = (fn.map DefD.val)[i]? := by rw [e]
  rw [List.getElem?_map, List.getElem?_map, h] at e2
  exact DefD.funD (Option.some.inj e2) (List.all_eq_true.mp c2 d (List.mem_of_getElem? h))
end
end EF
set_option Elab.async false
set_option linter.all false
set_option maxRecDepth 100000
set_option maxHeartbeats 4000000
/-! The facts of the row's head: classes, errors, defs, the tables of the defs that make lambdas. -/
namespace K7
open PySem PySem.Spec PyProof.Rows L2 He EF
abbrev R : PySem.W.OpenRow := PySem.W.OpenLaw.row PySem.Challenge.rw_editionlines_k61_notes_written_and_read
def bT : List Str := ["BadInput", "EditionError"]
def bM : List Str := ["NoAnswer", "EditionError"]
def errsN : List (Str × List Str) := [("BadFix", bT), ("BadLot", bT), ("BadNumber", bT), ("BadText", bT), ("BadWay", bT), ("TooMany", bM), ("Unlike", bM), ("BadInput", ["EditionError"]), ("NoAnswer", ["EditionError"]), ("EditionError", [])]
def freesN : List Str := ["int", "len", "abs", "list", "repr", "range", "isinstance", "ValueError", "LookupError", "bool", "str", "all", "tuple", "iter", "sorted", "enumerate", "any", "dict"]
def topsN : List (Str × Nat) := [("is_integer", 2), ("is_within", 3), ("is_fix", 4), ("take_fix_behind", 21), ("take_fixes", 22), ("is_open_to_change", 27), ("kept_value", 28), ("is_told", 35), ("note_of", 36), ("fixes_without", 37), ("can_follow", 38), ("_law_pen", 41), ("_law_draw", 42), ("_law_pick", 43),
  ("_law_heard", 44), ("_law_lot", 45), ("_law_two", 46), ("_law_text", 47), ("_law_due", 48), ("_law_read_right", 49), ("_law_bent", 50), ("_law_refused_right", 51), ("law", 52)]
def methN : List (Str × Nat) := [("__len__", 2), ("__iter__", 3), ("is_next", 5), ("take", 6), ("take_fix", 7), ("take_by", 9), ("step", 10), ("refuse", 11), ("end", 13)]
def lotN : List (Str × Nat) := [("__init__", 1), ("__str__", 4), ("__eq__", 5), ("__contains__", 6), ("__len__", 7), ("__iter__", 8), ("__getitem__", 9), ("__or__", 10), ("__and__", 11), ("__sub__", 12), ("__xor__", 13), ("__le__", 14), ("__ge__", 15), ("__lt__", 16), ("__gt__", 17), ("sifted", 18)]
def noteN : List (Str × Nat) := [("__str__", 2), ("__eq__", 3), ("__bool__", 4), ("__neg__", 5), ("__add__", 6)]
/-- a method's statement -/
abbrev wSt (j : Nat) : Stmt := inClass (top 19) j
abbrev lSt (j : Nat) : Stmt := inClass (top 23) j
abbrev nSt (j : Nat) : Stmt := inClass (top 39) j
def dTop (q : Str × Nat) : DefD := ⟨(q.1, none), q.1, q.1, defArgs (top q.2), defBody (top q.2), defScope (top q.2), [], []⟩
def dMeth (q : Str × Nat) : DefD := ⟨("Words", some q.1), q.1, "Words." ++ q.1, defArgs (wSt q.2), defBody (wSt q.2), defScope (wSt q.2), [], []⟩
def dLot (q : Str × Nat) : DefD := ⟨("Lot", some q.1), q.1, "Lot." ++ q.1, defArgs (lSt q.2), defBody (lSt q.2), defScope (lSt q.2), [], []⟩
def dNote (q : Str × Nat) : DefD := ⟨("Note", some q.1), q.1, "Note." ++ q.1, defArgs (nSt q.2), defBody (nSt q.2), defScope (nSt q.2), [], []⟩
def mkN : List (Str × Nat) := [("Number", 32), ("Release", 33), ("Note", 39)]
def dMk (q : Str × Nat) : DefD := ⟨(q.1, some "__init__"), "__init__", q.1 ++ ".__init__", defArgs (inClass (top q.2) 0), defBody (inClass (top q.2) 0), defScope (inClass (top q.2) 0), [], []⟩
def dInitW : DefD := ⟨("Words", some "__init__"), "__init__", "Words.__init__", defArgs (wSt 0), defBody (wSt 0), defScope (wSt 0), [.int 0], []⟩
def dInitE (x : Str) (i : Nat) : DefD := ⟨(x, some "__init__"), "__init__", x ++ ".__init__", defArgs (inClass (top i) 0), defBody (inClass (top i) 0), defScope (inClass (top i) 0), [], []⟩
def iniN : List (Str × Nat × List Str) := [("BadFix", 9, ["value"]), ("BadLot", 10, ["part"]), ("BadNumber", 11, ["value"]), ("BadText", 12, ["line", "word"]), ("BadWay", 13, ["value"]), ("TooMany", 14, ["what", "most"]), ("Unlike", 15, ["part"])]
def fns : List DefD := (topsN.map dTop) ++ (methN.map dMeth) ++ (lotN.map dLot) ++ (noteN.map dNote) ++ (mkN.map dMk) ++ [dInitW] ++ (iniN.map fun q => dInitE q.1 q.2.1)
def fas : List Fa := (freesN.map Fa.free) ++ (topsN.map fun q => Fa.glo q.1) ++ (methN.map fun q => Fa.meth "Words" q.1) ++ (lotN.map fun q => Fa.meth "Lot" q.1) ++ (noteN.map fun q => Fa.meth "Note" q.1) ++ (mkN.map fun q => Fa.glo q.1) ++ (mkN.map fun q => Fa.cls q.1) ++ (mkN.map fun q => Fa.mkr q.1) ++ [.glo "Words", .cls "Words", .mkr "Words", .noat "Words" "parts", .noat "Words" "line", .noat "Words" "taken", .glo "Lot", .cls "Lot", .mkr "Lot", .noat "Lot" "fixes", .noat "Number" "line", .noat "Number" "at", .noat "Release" "number", .noat "Release" "lot", .noat "Note" "gained", .noat "Note" "lost", .int "LINES" 6, .int "RELEASES" 60]
def tabN : List Defn := [("take_fix_behind", none), ("_law_read_right", none), ("_law_refused_right", none)]
def iniE (K : PySem.W.Frag) (x : Str) (fs : List Str) : Bool := eqO (PySem.W.findIn K (.ref (ga K x)) "__init__") (some (some (.ref (ma K (ga K x) "__init__")))) && (decide (PySem.W.typeIn K (.ref (ma K (ga K x) "__init__")) = some (.type "function")) &&
  fs.all fun f => eqO (PySem.W.findIn K (.ref (ga K x)) f) (some none))
def bmB (K : PySem.W.Frag) (g : Addr) : Bool := eqO (PySem.W.specialIn K (.ref g) "__get__") (some (some (.builtin "function.__get__"))) && (decide (PySem.W.takesIn K (.ref g) = some false) && PySem.W.fnIn K g)
def exmB (K : PySem.W.Frag) (x : Str) (c : Value) (b : Bool) : Bool := decide (PySem.W.exmOne K (.ref (ga K x)) c = some b)
/-- the tables are not one another's -/
def apart (K : PySem.W.Frag) : Bool := decide ((tabN.map fun p => (cT K p).2).Nodup)
/-- the kinds that are set beside a lot -/
def besT : List String := ["NoneType", "bool", "int", "str", "tuple", "list", "dict"]
/-- what a lot's class has not -/
def lacks : List Str := ["__bool__", "__ior__", "__iand__", "__isub__", "__ixor__", "__ror__", "__rand__", "__rsub__", "__rxor__"]
def mostB (K : PySem.W.Frag) : Bool := match PySem.W.findCls K (.ref (ga K "Lot")) (.type "type") "MOST" with
  | some (.val (.int n _)) => decide (n = 8)
  | _ => false
def lotB1 (K : PySem.W.Frag) (C : Addr) : Bool := eqO (PySem.W.findIn K (.ref C) "__class__") (some (some (.builtin "object.__class__"))) && (decide (PySem.W.mroIn K C (.type "object") = some true) && (PySem.W.selfFirst K C && (PySem.W.noSeq K C && (PySem.W.clsIn K C).any fun cd => decide (cd.mro = [.ref C, .type "object"]))))
def lotB2 (K : PySem.W.Frag) (C : Addr) : Bool := (besT.all fun t => decide (PySem.W.subIn K (.type t) (.ref C) = some false)) && ((lacks.all fun m => eqO (PySem.W.findIn K (.ref C) m) (some none)) && eqO (PySem.W.findIn K (.ref C) "__ne__") (some (some (.builtin "object.__ne__"))))
def lotB3 (K : PySem.W.Frag) (C : Addr) : Bool := He5.wrapB K C "staticmethod" "staticmethod.__get__" "of" && (He5.wrapB K C "classmethod" "classmethod.__get__" "read" && (PySem.W.fnIn K (He5.wf K C "staticmethod" "of") && PySem.W.fnIn K (He5.wf K C "classmethod" "read")))
def lotB4 (K : PySem.W.Frag) (C : Addr) : Bool := mostB K && (PySem.W.readsIn K C (.type "type") && (eqO (PySem.W.specialIn K (.ref C) "__getattribute__") (some (some (.builtin "type.__getattribute__"))) && PySem.W.fnIn K (ma K C "__getitem__")))
def lotB5 (K : PySem.W.Frag) (C : Addr) : Bool := decide (PySem.W.kitOne K (.ref C) (.type "str") = some false) && (decide (PySem.W.kitOne K (.ref C) (.ref C) = some true) && (decide (PySem.W.kitAny K (.ref C) [.type "list", .type "tuple"] = some false) && (besT.all fun t => decide (PySem.W.kitOne K (.type t) (.ref C) = some false))))
def lotB (K : PySem.W.Frag) : Bool := lotB1 K (ga K "Lot") && (lotB2 K (ga K "Lot") && (lotB3 K (ga K "Lot") && (lotB4 K (ga K "Lot") && lotB5 K (ga K "Lot"))))
/-- what a note's class has not -/
def lackN : List Str := ["__iadd__", "__radd__"]
def objB1 (K : PySem.W.Frag) (C : Addr) : Bool := eqO (PySem.W.findIn K (.ref C) "__class__") (some (some (.builtin "object.__class__"))) && (decide (PySem.W.mroIn K C (.type "object") = some true) && (PySem.W.selfFirst K C && PySem.W.noSeq K C))
def noteB (K : PySem.W.Frag) : Bool := lotB1 K (ga K "Note") && ((besT.all fun t => decide (PySem.W.subIn K (.type t) (.ref (ga K "Note")) = some false)) && ((lackN.all fun m => eqO (PySem.W.findIn K (.ref (ga K "Note")) m) (some none)) && eqO (PySem.W.findIn K (.ref (ga K "Note")) "__ne__") (some (some (.builtin "object.__ne__")))))
def kitsB (K : PySem.W.Frag) : Bool := decide (PySem.W.kitOne K (.ref (ga K "Note")) (.ref (ga K "Note")) = some true) && (decide (PySem.W.kitOne K (.ref (ga K "Lot")) (.ref (ga K "Note")) = some false) && ((besT.all fun t => decide (PySem.W.kitOne K (.type t) (.ref (ga K "Note")) = some false)) &&
  (decide (PySem.W.kitOne K (.ref (ga K "Release")) (.ref (ga K "Release")) = some true) && (decide (PySem.W.kitOne K (.ref (ga K "Number")) (.ref (ga K "Number")) = some true) && ((["Lot", "Number"] : List Str).all fun x => decide (PySem.W.kitOne K (.ref (ga K x)) (.type "tuple") = some false) && decide (PySem.W.kitAny K (.ref (ga K x)) [.type "list", .type "dict"] = some false))))))
def kit2B (K : PySem.W.Frag) : Bool := decide (PySem.W.kitOne K (.ref (ga K "Lot")) (.ref (ga K "Release")) = some false) && (decide (PySem.W.kitOne K (.ref (ga K "Number")) (.ref (ga K "Release")) = some false) && ((besT.all fun t => decide (PySem.W.kitOne K (.type t) (.ref (ga K "Release")) = some false)) &&
  ((besT.all fun t => decide (PySem.W.kitOne K (.type t) (.ref (ga K "Number")) = some false)) &&
  (PySem.W.readsIn K (ga K "Note") (.type "type") && eqO (PySem.W.specialIn K (.ref (ga K "Note")) "__getattribute__") (some (some (.builtin "type.__getattribute__")))))))
/-- what stands of Note, Number, Release -/
def relB (K : PySem.W.Frag) : Bool := noteB K && ((kitsB K && kit2B K) && (objB1 K (ga K "Number") && (objB1 K (ga K "Release") && ((He5.wrapB K (ga K "Note") "staticmethod" "staticmethod.__get__" "read" && PySem.W.fnIn K (He5.wf K (ga K "Note") "staticmethod" "read")) && (decide ((errsN.map fun q => ga K q.1).Nodup) && (["__add__", "__radd__"] : List Str).all fun m => eqO (PySem.W.findIn K (.ref (ga K "Lot")) m) (some none))))))
/-- the defs behind a static and a class method -/
def dAs : List He5.DefA := [⟨fun K => He5.wf K (ga K "Lot") "staticmethod" "of", "of", "Lot.of", defArgs (lSt 2), defBody (lSt 2), defScope (lSt 2), [], []⟩,
  ⟨fun K => He5.wf K (ga K "Lot") "classmethod" "read", "read", "Lot.read", defArgs (lSt 3), defBody (lSt 3), defScope (lSt 3), [], []⟩,
  ⟨fun K => He5.wf K (ga K "Note") "staticmethod" "read", "read", "Note.read", defArgs (nSt 1), defBody (nSt 1), defScope (nSt 1), [], []⟩]
def exS (K : PySem.W.Frag) : Bool := ((lotB K && relB K) && dAs.all fun d => d.ok K) && (apart K && bmB K (ma K (ga K "Words") "is_next") && objB K && (errsN.all fun q => errB K q.1 q.2) && (iniN.all fun q => iniE K q.1 q.2.2) && (errsN.all fun q => exmB K q.1 (.ref (ga K "EditionError")) true))
/-! ### the Hook, with the interpreter's own statics and defs at any address -/
/-- those of the addresses that are not seen yet, each once; what is seen is held as the bits of a number -/
def newB {β : Type} : List Addr → Nat → (List Addr → Nat → β) → β
  | [], s, k => k [] s
  | a :: r, s, k => match Nat.beq (Nat.land (Nat.shiftRight s a) 1) 0 with
    | true => newB r (Nat.lor s (Nat.shiftLeft 1 a)) fun n s' => k (a :: n) s'
    | false => newB r s k
def goB {β : Type} (g : Addr → Option Obj) : List Addr → Nat → (List Addr → Nat → β) → β
  | [], s, k => k [] s
  | a :: r, s, k => match g a with
    | some o => newB (He.refsD o) s fun n s' => goB g r s' fun m s2 => k (n ++ m) s2
    | none => goB g r s k
/-- what is reached in so many steps -/
def asB (g : Addr → Option Obj) : Nat → List Addr → Nat → List Addr
  | 0, fr, _ => fr
  | n + 1, fr, s => goB g fr s fun nw s' => fr ++ asB g n nw s'
def asY (g : Addr → Option Obj) (n : Nat) : List Addr := cStatics :: asB g n [mainGlobals] (Nat.shiftLeft 1 mainGlobals)
abbrev AlY : Type := AlX × List He5.FnW
def frY (n : Nat) (g : Addr → Option Obj) : PySem.W.Frag := He.frT g (asY g n)
def obsS (n : Nat) (g : Addr → Option Obj) : AlY := ((He.obsT fas fns [] (frY n g), exS (frY n g) && He.tabsB g tabN (frY n g)), dAs.map fun d => He5.fnA (frY n g) (d.at_ (frY n g)))
def valS (w : World) : AlY := (He.valX fns [] w, dAs.map He5.DefA.val)
structure SaysY (w : World) (h : Heap) (K : PySem.W.Frag) : Prop where
  x : He.SaysX fas fns [] tabN exS w h K
  y : (dAs.map fun d => He5.fnA K (d.at_ K)) = dAs.map He5.DefA.val
theorem says_fr {as : List Addr} {w : World} {h : Heap} (a : He.obsT fas fns [] (He.frT h.get? as) = He.valT fns [] w) (b : (exS (He.frT h.get? as) && He.tabsB h.get? tabN (He.frT h.get? as)) = true) : He.SaysX fas fns [] tabN exS w h (He.frT h.get? as) := by
  obtain ⟨b1, b2⟩ := ba b
  generalize hK : He.frT h.get? as = K at a b1 b2
  have at1 : ∀ p ∈ tabN, PySem.W.codeHdIn K (cT K p).1 (cT K p).2 = true ∧ ∃ u, h.get? (cT K p).2 = some u ∧ He.emptyTab u = true := by
    intro p hp
    obtain ⟨c1, c2⟩ := ba (List.all_eq_true.mp b2 p hp)
    refine ⟨c1, ?_⟩
    rcases e : h.get? (cT K p).2 with _ | u
    · rw [e] at c2
      exact nomatch c2
    · rw [e] at c2
      exact ⟨u, rfl, c2⟩
  constructor
  · exact a
  · exact b1
  · exact fun p hp => (at1 p hp).1
  · intro p hp
    obtain ⟨_, u, e, z⟩ := at1 p hp
    rw [← hK] at e ⊢
    exact He.frT_none e z
  · intro p hp
    obtain ⟨_, u, e, z⟩ := at1 p hp
    rw [e, He.emptyTab_eq z]
theorem saysY_of {n : Nat} {w : World} {h : Heap} (e : obsS n h.get? = valS w) : SaysY w h (frY n h.get?) :=
  ⟨says_fr (congrArg (fun z : AlY => z.1.1) e) (congrArg (fun z : AlY => z.1.2) e), congrArg (fun z : AlY => z.2) e⟩
theorem SaysY.keep {w : World} {h h' : Heap} {K : PySem.W.Frag} (c : SaysY w h K) (k : ∀ a o, h.get? a = some o → h'.get? a = some o) : SaysY w h' K :=
  ⟨⟨c.x.t, c.x.more, c.x.hd, c.x.out, fun p hp => k _ _ (c.x.empty p hp)⟩, c.y⟩
def hookS (n : Nat) : PySem.W.Hook where
  α := AlY
  obs := fun s => obsS n s.heap.get?
  val := fun w => valS w
  says := fun w h => ∃ K : PySem.W.Frag, K.In h ∧ SaysY w h K
  of := fun _ _ e => ⟨_, frT_in, saysY_of e⟩
  keeps := fun _ _ _ ⟨K, hK, c⟩ k => ⟨K, PySem.W.Frag.In.keeps hK k, c.keep k⟩
theorem obsS_eq {n : Nat} {g : Addr → Option Obj} {s : Shared} (h : ∀ a, g a = s.heap.get? a) : obsS n g = (hookS n).obs s := by
  rw [show g = s.heap.get? from funext h]
  rfl
end K7
set_option Elab.async false
set_option linter.all false
set_option maxRecDepth 100000
set_option maxHeartbeats 0
namespace K7
open PySem PySem.Spec PyProof.Rows L2 He EF
abbrev hkS : PySem.W.Hook := hookS 6
def obT (s : PySem.W.SharedT) : AlY := obsS 6 (HandSHeadRun.getT s)
theorem obT_eq (s : PySem.W.SharedT) : obT s = hkS.obs s.abs := obsS_eq (HandSHeadRun.getT_eq s)
def loose : List Str := (["_wall", "is_integer", "is_within", "is_fix", "EditionError", "BadInput", "NoAnswer", "BadFix", "BadLot", "BadNumber", "BadText", "BadWay", "TooMany", "Unlike", "number_of", "is_plain_number", "Words", "take_fix_behind", "take_fixes", "Lot"] : List Str) ++ (["LINES", "RELEASES", "is_open_to_change", "kept_value", "Paper", "is_number_word", "Number", "Release", "is_told", "note_of", "fixes_without", "can_follow", "Note", "_law_pen", "_law_draw", "_law_pick",
  "_law_heard", "_law_lot", "_law_two", "_law_text", "_law_due", "_law_read_right", "_law_bent", "_law_refused_right"] : List Str)
theorem runS (w : World) : HandSHeadRun.RunEq R (PySem.W.view R.prog [52]) hkS obT 9500 loose w := by
  intro os
  kernel_rfl
end K7
set_option Elab.async false
set_option linter.all false
set_option maxRecDepth 100000
set_option maxHeartbeats 4000000
/-! What is known of a value all the way down, and repr of it. -/
namespace RV
open PySem PySem.Spec PyProof.Rows L2
def keyD : Key → PyData
  | .inl i => .int i
  | .inr x => .str x
mutual
/-- at v stands the datum d, all the way down -/
inductive Dat (H : Hp) : V → PyData → Prop
  | non : Dat H .non .none
  | bl (b : Bool) : Dat H (.bl b) (.bool b)
  | int (i : Int) : Dat H (.int i) (.int i)
  | str (x : Str) : Dat H (.str x) (.str x)
  | tup {a : Addr} {xs : List V} {ds : List PyData} : H a = some (.tup xs) → Dats H xs ds → Dat H (.ref a) (.tuple ds)
  | lst {a : Addr} {xs : List V} {ds : List PyData} : H a = some (.lst xs) → a ≠ sysModules → Dats H xs ds → Dat H (.ref a) (.list ds)
  | dic {a : Addr} {kvs : List (Key × V)} {kds : List (PyData × PyData)} : H a = some (.dK kvs) → kds.map (·.1) = kvs.map (fun q => keyD q.1) →
      Dats H (kvs.map (·.2)) (kds.map (·.2)) → Dat H (.ref a) (.dict kds)
inductive Dats (H : Hp) : List V → List PyData → Prop
  | nil : Dats H [] []
  | cons {x : V} {d : PyData} {xs : List V} {ds : List PyData} : Dat H x d → Dats H xs ds → Dats H (x :: xs) (d :: ds)
end
mutual
theorem Dat.same {H H' : Hp} (k : ∀ b o, H b = some o → H' b = some o) {v : V} {d : PyData} : Dat H v d → Dat H' v d
  | .non => .non
  | .bl b => .bl b
  | .int i => .int i
  | .str x => .str x
  | .tup e r => .tup (k _ _ e) (r.same k)
  | .lst e n r => .lst (k _ _ e) n (r.same k)
  | .dic e q r => .dic (k _ _ e) q (r.same k)
theorem Dats.same {H H' : Hp} (k : ∀ b o, H b = some o → H' b = some o) {xs : List V} {ds : List PyData} : Dats H xs ds → Dats H' xs ds
  | .nil => .nil
  | .cons r t => .cons (r.same k) (t.same k)
end
theorem vals_of_kv {kvs : List (Key × V)} {vs : List (Key × Value)} (r : KV kvs vs) : kvs.map (·.1) = vs.map (·.1) ∧ Vals (kvs.map (·.2)) (vs.map (·.2)) := by
  induction r with
  | nil => exact ⟨rfl, .nil⟩
  | cons h t ih => exact ⟨by rw [List.map_cons, List.map_cons, ih.1, h.1], .cons h.2 ih.2⟩
theorem pairs_of {P : Program} {w : World} {es : List DictEntry} {vs : List (Key × Value)} (r : Pairs (mixKind P w) es vs) (h : Heap) :
    (∃ as, ReadsAll h (es.map (·.key)) (vs.map fun q => keyD q.1) as ∧ as = []) ∧ es.map (·.val) = vs.map (·.2) := by
  induction r with
  | nil => exact ⟨⟨[], .nil, rfl⟩, rfl⟩
  | @cons e kv es kvs hk hv t ih =>
    obtain ⟨⟨as, ra, ha⟩, iv⟩ := ih
    subst ha
    refine ⟨⟨[], ?_, rfl⟩, by rw [List.map_cons, List.map_cons, hv, iv]⟩
    rw [List.map_cons, List.map_cons]
    rcases keyIs_shape (show keyIs kv.1 e.key = true from hk) with ⟨i, u, e1, e2⟩ | ⟨x, u, e1, e2⟩
    · rw [e1, e2]
      exact .cons (as := []) (bs := []) (.int i u) ra
    · rw [e1, e2]
      exact .cons (as := []) (bs := []) (.str x u) ra
mutual
theorem Dat.reads {P : Program} {w : World} {H : Hp} {h : Heap} (ok : HOk P w H h) {v : V} {d : PyData} {u : Value} : Dat H v d → RelV v u → ∃ as, Reads h u d as ∧ sysModules ∉ as
  | .non, r => by
    cases (show u = Value.none from r)
    exact ⟨[], .none, by simp⟩
  | .bl b, r => by
    cases (show u = Value.bool b from r)
    exact ⟨[], .bool b, by simp⟩
  | .int i, r => by
    obtain ⟨t, rfl⟩ := (show ∃ t, u = Value.int i t from r)
    exact ⟨[], .int i t, by simp⟩
  | .str x, r => by
    obtain ⟨t, rfl⟩ := (show ∃ t, u = Value.str x t from r)
    exact ⟨[], .str x t, by simp⟩
  | .tup (a := a) (xs := xs) e q, r => by
    cases (show u = Value.ref a from r)
    obtain ⟨_, its, rv, o, h1, h2, n, h3⟩ := (show ObjOk P w H h a (.tup xs) from ok a _ e)
    obtain ⟨as, ra, na⟩ := q.reads ok rv
    exact ⟨as, .tuple h1 h2 h3 ra, na⟩
  | .lst (a := a) (xs := xs) e n q, r => by
    cases (show u = Value.ref a from r)
    obtain ⟨_, its, m, rv, h1⟩ := (show ObjOk P w H h a (.lst xs) from ok a _ e)
    obtain ⟨as, ra, na⟩ := q.reads ok rv
    exact ⟨a :: as, .list h1 rfl rfl ra, fun z => by
      rcases List.mem_cons.mp z with z | z
      · exact n z.symm
      · exact na z⟩
  | .dic (a := a) (kvs := kvs) (kds := kds) e q t, r => by
    cases (show u = Value.ref a from r)
    obtain ⟨_, hs, vs, rk, o, es, ep, h1, h2, h3, _, h5, _⟩ := (show ObjOk P w H h a (.dK kvs) from ok a _ e)
    obtain ⟨k1, k2⟩ := vals_of_kv rk
    obtain ⟨⟨as, ra, ha⟩, iv⟩ := pairs_of h5 h
    obtain ⟨bs, rb, nb⟩ := t.reads ok k2
    subst ha
    refine ⟨a :: [] ++ bs, .dict h1 h2.1 h3 (as := []) (bs := bs) ?_ ?_, fun z => ?_⟩
    · have e2 : kds.map (·.1) = vs.map fun q => keyD q.1 := by
        rw [q, show (kvs.map fun q => keyD q.1) = (kvs.map (·.1)).map keyD by rw [List.map_map]; rfl, k1, List.map_map]
        rfl
      rw [e2]
      exact ra
    · rw [iv]
      exact rb
    · rcases List.mem_cons.mp z with z | z
      · exact (beq_eq_false_iff_ne.mp hs) z.symm
      · exact nb z
theorem Dats.reads {P : Program} {w : World} {H : Hp} {h : Heap} (ok : HOk P w H h) {xs : List V} {ds : List PyData} {us : List Value} : Dats H xs ds → Vals xs us → ∃ as, ReadsAll h us ds as ∧ sysModules ∉ as
  | .nil, r => by
    cases r
    exact ⟨[], .nil, by simp⟩
  | .cons q t, r => by
    cases r with
    | cons r1 r2 =>
      obtain ⟨as, ra, na⟩ := q.reads ok r1
      obtain ⟨bs, rb, nb⟩ := t.reads ok r2
      exact ⟨as ++ bs, .cons ra rb, fun z => (List.mem_append.mp z).elim na nb⟩
end
/-- repr of a container -/
def rRepr : List V → Hp → VK → Prop := fun xs H Q => ∃ a d, xs = [.ref a] ∧ Dat H (.ref a) d ∧ d.showable = true ∧ d.depth ≤ 20 ∧ d.shown.length ≤ sizeLine ∧ Q (.str d.shown) H
theorem call_repr {X : Cx} (hg : X.A.guards = some []) (hu : X.A.units + 64 < cLine) : CallR X (.builtin "repr") rRepr := by
  intro pins s σ H xs us Q I r h
  obtain ⟨a, d, rfl, D, hs, hd, hz, q⟩ := h
  cases r with
  | cons r1 r2 =>
    cases r2
    obtain ⟨as, ra, na⟩ := D.reads I.hok r1
    cases (show _ = Value.ref a from r1)
    exact repr_of_reads' ra hs (fun _ => na) hg (by omega) (fun _ _ e => e) (fun h' u tk k => ⟨.str d.shown, H, I.kept (t' := tk) k, ⟨_, rfl⟩, q⟩) hz
/-- a list display: the new list is not the table of modules -/
theorem pe_lst1 {X : Cx} {es : List Expr} {t : TA} {pos : Pos} (h : PA X es t) :
    PE X (.List es pos) (fun σ H Q => t σ H fun xs H1 => xs.length ≤ sizeLine ∧ ∀ p, H1 p = none → p ≠ sysModules → Q (.ref p) (upd H1 p (.lst xs))) := by
  refine ⟨fun pins s σ H Q I hq => ?_⟩
  refine wpAny_List_spliced (thn (h.run pos pins s σ H _ I hq) fun us s1 ⟨xs, H1, I1, r, z, q⟩ => ⟨by rw [← r.length]; exact z, ?_⟩)
  refine ⟨.ref s1.heap.objs.size, _, I1.laid (t' := s1.toks) (o := .lst xs) (fun b u e => Heap.get?_push_of_some _ e) (Nat.le_refl _) ⟨z, us, 0, r, Heap.get?_push_size _ rfl⟩, rfl,
    q _ (I1.hok.fresh (Nat.le_refl _)) (Nat.ne_of_gt I1.big)⟩
/-- a list so many times -/
def rMulL : R2 := fun x y H Q => ∃ l k xs, x = .ref l ∧ y = .int k ∧ H l = some (.lst xs) ∧ xs ≠ [] ∧ 0 ≤ k ∧ k ≤ 1000 ∧ xs.length ≤ 1000 ∧
  ∀ p, H p = none → p ≠ sysModules → Q (.ref p) (upd H p (.lst (List.replicate k.toNat xs).flatten))
theorem op_mulL {X : Cx} : OpR X (binaryOp .Mult) rMulL := by
  intro pins s σ H x y v u Q I rx ry h
  obtain ⟨l, k, xs, rfl, rfl, hT, hne, h1, h2, hz, q⟩ := h
  cases rx
  obtain ⟨t, rfl⟩ := ry
  obtain ⟨_, its, n, r, ho⟩ := (show ObjOk X.prog X.w H s.heap l (.lst xs) from I.hok l _ hT)
  have hle : its.length = xs.length := r.length.symm
  have hi : its.toArray.isEmpty = false := by
    cases its with
    | nil => exact absurd (List.eq_nil_of_length_eq_zero hle.symm) hne
    | cons a b => rfl
  have hm : xs.length * k.toNat ≤ 1000 * 1000 := Nat.mul_le_mul hz (by omega)
  have hsz : its.toArray.size = xs.length := by rw [List.size_toArray, hle]
  refine wpAny_binaryOp_repeat_ref (T := "list") (U := "int") (by decide) ⟨_, ho, rfl⟩ (fun s' => typeIs_int s' k t) noFill_list_mul F.fills_int_mul F.slot_int_rmul repeat_list F.slot_int_index.lookup
    (call_meets F.slot_int_rmul (typeIs_int s k t) F.entry_int_rmul (F.args_int_rmul_2 _ _) (int___rmul___int_list k t l its.toArray n)
      ⟨ho, rfl, ⟨_, ho, rfl⟩, call_meets F.slot_list_mul ⟨_, ho, rfl⟩ F.entry_list_mul (F.args_list_mul_2 _ _)
        (AutoListH.list___mul___list_int_3 l its.toArray n k t (by simp [Builtin.List.listFitsIndex]; omega) (by rw [hsz]; omega) (by rw [hsz]; simp [Builtin.List.listTooLong, sizeLine]; omega)) ⟨ho, ?_⟩⟩)
  rw [hi, if_neg Bool.false_ne_true, size_rep]
  refine ⟨.ref s.heap.objs.size, _, I.laid (t' := s.toks) (o := .lst (List.replicate k.toNat xs).flatten) (fun b ob q => Heap.get?_push_of_some _ q) (Nat.le_refl _) ?_, rfl, q _ (I.hok.fresh (Nat.le_refl _)) (Nat.ne_of_gt I.big)⟩
  refine ⟨?_, _, 0, r.rep k.toNat, Heap.get?_push_size _ rfl⟩
  rw [PyProof.Rows.lm_len_rep_flat, sizeLine_eq]
  have := Nat.mul_comm k.toNat xs.length
  omega
end RV
set_option Elab.async false
set_option linter.all false
set_option maxRecDepth 100000
set_option maxHeartbeats 4000000
/-! The draws of the law: the pen, a draw, a pick. -/
namespace K7
open PySem PySem.Spec PyProof.Rows L2
abbrev sPen : Stmt := top 41
abbrev sDraw : Stmt := top 42
abbrev sPick : Stmt := top 43
abbrev FnP (K : PySem.W.Frag) (x : Str) (st : Stmt) (f : Addr) (fd : FuncData) : Prop := FunD K x x (defArgs st) (defBody st) (defScope st) [] [] f fd
/-- a pen at p: its cells at a, how many were taken, what is left of a great one -/
structure Pen (H : Hp) (p a : Addr) (cs : List Int) (b g : Int) : Prop where
  pn : H p = some (.lst [.ref a, .int b, .int g])
  ce : H a = some (.lst (cs.map V.int))
  b0 : 0 ≤ b
  g0 : 0 ≤ g
  ln : cs.length ≤ 63
theorem Pen.ne {H : Hp} {p a : Addr} {cs : List Int} {b g : Int} (P : Pen H p a cs b g) : a ≠ p := fun e => by
  have z := P.ce
  rw [e, P.pn] at z
  cases cs with
  | nil => cases z
  | cons c cs => cases z
def spDraw : Sp := fun vs H Q _ => ∃ (p a : Addr) (cs : List Int) (b g many : Int), vs = [.ref p, .int many] ∧ Pen H p a cs b g ∧ b ≤ 1000 ∧ 0 < many ∧ many < 1000 ∧
  ∀ (r b' g' : Int) (H' : Hp), 0 ≤ r → r < many → b' ≤ b + 1 → Pen H' p a cs b' g' → (∀ c o, c ≠ p → H c = some o → H' c = some o) → Q (.int r) H'
/-- the built-ins that are still themselves -/
structure Blt (mg : Str → Option Value) : Prop where
  int : mg "int" = none
  len : mg "len" = none
  abs : mg "abs" = none
  list : mg "list" = none
section
variable {P : Program} {w : World} {K : PySem.W.Frag} {mg : Str → Option Value} {base : Heap} {f : Addr} {fd : FuncData}
theorem scDraw : FnScope ["_law_pen_here", "_law_many", "_law_digit", "_law_lap", "_law_cell", "_law_great", "_law_stir"] ["_law_pen_here", "_law_many"] (defScope sDraw) :=
  ⟨rfl, rfl, rfl, by decide +kernel, rfl, by decide +kernel, by decide +kernel⟩
theorem canLay_ints (cs : List Int) : PyData.canLayAll0 (cs.map PyData.int) = true := by
  induction cs with
  | nil => rfl
  | cons c cs ih => simp [PyData.canLayAll0, PyData.canLay0, ih]
theorem depth_ints (cs : List Int) : PyData.depthAll (cs.map PyData.int) = 0 := by
  induction cs with
  | nil => rfl
  | cons c cs ih => simp [PyData.depthAll, PyData.depth, ih]
theorem shaped_ints (cs : List Int) : SeqAt.shaped (.list (cs.map .int)) = true := by
  simp [SeqAt.shaped, PyData.canLay0, PyData.depth, canLay_ints, depth_ints]
theorem dp_ints {K : PySem.W.Frag} {H : Hp} (cs : List Int) : DpAll K H (cs.map V.int) (cs.map PyData.int) := by
  induction cs with
  | nil => exact .nil
  | cons c cs ih => exact .cons (.int c) ih
theorem great0 {R many : Int} (h : decide ((10 : Int) ^ Int.toNat 18 ≤ if R < 0 then -R else R) = true) (hm : 0 < many) :
    0 ≤ (2 * ((if R < 0 then -R else R) - (10 : Int) ^ Int.toNat 18) + if decide (R < 0) = true then 1 else 0) / many := by
  have h2 := of_decide_eq_true h
  refine Int.ediv_nonneg ?_ (by omega)
  split <;> omega
theorem cpow5 (R : Int) {b : Int} (h0 : 0 ≤ b) (h1 : b ≤ 1000) : CPow (R % 2147483579 + 6301 * b + 3001) 5 := by
  have a1 := Int.emod_nonneg R (show (2147483579 : Int) ≠ 0 by decide)
  have a2 := Int.emod_lt_of_pos R (show (0 : Int) < 2147483579 by decide)
  refine ⟨by decide, by decide, ?_⟩
  omega
theorem cmul1 (x y : Int) : CMul (x % 2147483629) y := by
  have a1 := Int.emod_nonneg x (show (2147483629 : Int) ≠ 0 by decide)
  have a2 := Int.emod_lt_of_pos x (show (0 : Int) < 2147483629 by decide)
  exact .inl ⟨by omega, by omega⟩
theorem cpow3 (x : Int) {b : Int} (h0 : 0 ≤ b) (h1 : b ≤ 1000) : CPow (x % 2147483629 * (2 * b + 503) + 43019 * b * b + 91009) 3 := by
  have a1 := Int.emod_nonneg x (show (2147483629 : Int) ≠ 0 by decide)
  have a2 := Int.emod_lt_of_pos x (show (0 : Int) < 2147483629 by decide)
  have b1 : x % 2147483629 * (2 * b + 503) ≤ 2147483629 * (2 * b + 503) := Int.mul_le_mul_of_nonneg_right (by omega) (by omega)
  have b2 : 0 ≤ x % 2147483629 * (2 * b + 503) := Int.mul_nonneg a1 (by omega)
  have b3 : 43019 * b * b ≤ 43019 * b * 1000 := Int.mul_le_mul_of_nonneg_left h1 (by omega)
  have b4 : 0 ≤ 43019 * b * b := Int.mul_nonneg (by omega) h0
  refine ⟨by decide, by decide, ?_⟩
  omega
theorem ok_draw (F : FnP K "_law_draw" sDraw f fd) (T : Blt mg) : FnOk P w K mg base CX0 1 f fd ["_law_pen_here", "_law_many"] spDraw := by
  refine F.ok scDraw (fun vs H Q E h => ?_) (fun cdv A outer s H vs Q E hr h => ?_)
  · obtain ⟨p, a, cs, b, g, many, rfl, _⟩ := h
    rfl
  · obtain ⟨p, a, cs, b, g, many, rfl, N, hb, hm0, hm1, k⟩ := h
    have hu := hr.units
    refine ⟨_, PSs.nox (pss_cons (ps_if (pt_cmpR op_gt (pe_ix ix_list (pv 0) pe_int (fun _ _ => rfl)) pe_int (nomark _))
        (pss_cons (ps_set (i := 2) scDraw.nd rfl (.inl rfl) (pe_op op_mod (pe_callTy call_int1 (by rfl) T.int boot_int (pa_cons (pe_ix ix_list (pv 0) pe_int (fun _ _ => rfl)) pa_nil)) (pv 1)))
        (pss_cons (ps_asg (pe_op op_fdiv (pe_callTy call_int1 (by rfl) T.int boot_int (pa_cons (pe_ix ix_list (pv 0) pe_int (fun _ _ => rfl)) pa_nil)) (pv 1)) (pg_sub (pv 0) pe_int set_list))
        (pss_one (ps_ret (pv 2))))) pss_nil)
      (pss_cons (ps_set (i := 3) scDraw.nd rfl (.inl rfl) (pe_ix ix_list (pv 0) pe_int (fun _ _ => rfl)))
      (pss_cons (ps_asg (pe_op op_add (pv 3) pe_int) (pg_sub (pv 0) pe_int set_list))
      (pss_cons (ps_set (i := 4) scDraw.nd rfl (.inl rfl) (pe_op op_add (pe_op op_mul pe_int (pv 3)) pe_int))
      (pss_cons (ps_if (pt_cmpR (op_neD hu) (pe_ix ix_list (pv 0) pe_int (fun _ _ => rfl)) (pe_lst pa_nil) (nomark _))
        (pss_one (ps_set (i := 4) scDraw.nd rfl (.inl rfl) (pe_ix ix_list (pe_ix ix_list (pv 0) pe_int (fun _ _ => rfl))
          (pe_op op_mod (pe_callTy call_int1 (by rfl) T.int boot_int (pa_cons (pv 3) pa_nil)) (pe_callB call_len_seq (by rfl) T.len PySem.boot_len (pa_cons (pe_ix ix_list (pv 0) pe_int (fun _ _ => rfl)) pa_nil))) (fun _ _ => rfl)))) pss_nil)
      (pss_cons (ps_if (PW.pt (pw_and (pt_cmpR op_lt (pv 3) (pe_callB call_len_seq (by rfl) T.len PySem.boot_len (pa_cons (pe_ix ix_list (pv 0) pe_int (fun _ _ => rfl)) pa_nil)) (nomark _))
          (pw_and1 (pt_cmpR op_ge (pe_callB call_abs (by rfl) T.abs boot_abs (pa_cons (pv 4) pa_nil)) (pe_op op_pow pe_int pe_int) (nomark _)))))
        (pss_cons (ps_set (i := 5) scDraw.nd rfl (.inl rfl) (pe_op op_add (pe_op op_mul pe_int (pe_op op_sub (pe_callB call_abs (by rfl) T.abs boot_abs (pa_cons (pv 4) pa_nil)) (pe_op op_pow pe_int pe_int)))
            (pe_callTy call_int1 (by rfl) T.int boot_int (pa_cons (pe_cmpR op_lt (pv 4) pe_int (nomark _)) pa_nil))))
        (pss_cons (ps_asg (pe_op op_fdiv (pe_callTy call_int1 (by rfl) T.int boot_int (pa_cons (pv 5) pa_nil)) (pv 1)) (pg_sub (pv 0) pe_int set_list))
        (pss_one (ps_ret (pe_op op_mod (pe_callTy call_int1 (by rfl) T.int boot_int (pa_cons (pv 5) pa_nil)) (pv 1)))))) pss_nil)
      (pss_cons (ps_set (i := 6) scDraw.nd rfl (.inl rfl) (pe_op op_mod (pe_callTy call_int1 (by rfl) T.int boot_int (pa_cons (pe_op op_pow (pe_op op_add (pe_op op_add
          (pe_op op_mod (pe_callTy call_int1 (by rfl) T.int boot_int (pa_cons (pv 4) pa_nil)) pe_int) (pe_op op_mul pe_int (pv 3))) pe_int) pe_int) pa_nil)) pe_int))
      (pss_cons (ps_set (i := 6) scDraw.nd rfl (.inl rfl) (pe_op op_mod (pe_callTy call_int1 (by rfl) T.int boot_int (pa_cons (pe_op op_pow (pe_op op_add (pe_op op_add
          (pe_op op_mul (pv 6) (pe_op op_add (pe_op op_mul pe_int (pv 3)) pe_int)) (pe_op op_mul (pe_op op_mul pe_int (pv 3)) (pv 3))) pe_int) pe_int) pa_nil)) pe_int))
      (pss_one (ps_ret (pe_op op_mod (pe_callTy call_int1 (by rfl) T.int boot_int (pa_cons (pe_op op_fdiv (pv 6) pe_int) pa_nil)) (pv 1)))))))))))), ?_⟩
    refine ⟨_, rfl, p, _, _, _, rfl, rfl, SqL.of N.pn, atI_nat (j := 2) rfl, _, _, rfl, rfl, _, rfl, ?_⟩
    refine ite2 (fun hg => ?_) (fun hg => ?_)
    · refine ⟨_, rfl, p, _, _, _, rfl, rfl, SqL.of N.pn, atI_nat (j := 2) rfl, .inl ⟨_, rfl, _, rfl, _, _, rfl, rfl, hm0, ?_⟩⟩
      refine ⟨_, rfl, p, _, _, _, rfl, rfl, SqL.of N.pn, atI_nat (j := 2) rfl, .inl ⟨_, rfl, _, rfl, _, _, rfl, rfl, ⟨hm0, by omega⟩, _, rfl, p, _, _, _, rfl, rfl, N.pn, rfl, ?_⟩⟩
      refine ⟨_, rfl, k (g % many) b (g / many) _ (Int.emod_nonneg _ (by omega)) (Int.emod_lt_of_pos _ hm0) (by omega)
        ⟨upd_same, by rw [upd_ne N.ne]; exact N.ce, N.b0, Int.ediv_nonneg N.g0 (by omega), N.ln⟩ fun c o hc e => by rw [upd_ne hc]; exact e⟩
    · refine ⟨_, rfl, p, _, _, _, rfl, rfl, SqL.of N.pn, atI_nat (j := 1) rfl, ?_⟩
      refine ⟨_, rfl, _, _, rfl, rfl, _, rfl, p, _, _, _, rfl, rfl, N.pn, rfl, ?_⟩
      have N1 : Pen (upd H p (.lst [.ref a, .int (b + 1), .int g])) p a cs (b + 1) g :=
        ⟨upd_same, by rw [upd_ne N.ne]; exact N.ce, by have := N.b0; omega, N.g0, N.ln⟩
      refine ⟨_, rfl, _, _, rfl, rfl, .inl ⟨by decide, by decide⟩, _, _, rfl, rfl, ?_⟩
      refine ⟨_, rfl, p, _, _, _, rfl, rfl, SqL.of N1.pn, atI_nat (j := 0) rfl, Nat.zero_le _, fun q hq => ?_⟩
      have qp : p ≠ q := ne_of_none N1.pn hq
      have qa : a ≠ q := ne_of_none N1.ce hq
      have N2 : Pen (upd (upd H p (.lst [.ref a, .int (b + 1), .int g])) q (.lst [])) p a cs (b + 1) g :=
        ⟨by rw [upd_ne qp]; exact N1.pn, by rw [upd_ne qa]; exact N1.ce, N1.b0, N1.g0, N1.ln⟩
      have keep2 : ∀ c o, c ≠ p → H c = some o → upd (upd H p (.lst [.ref a, .int (b + 1), .int g])) q (.lst []) c = some o := fun c o hc e => by
        have e1 : upd H p (.lst [.ref a, .int (b + 1), .int g]) c = some o := by rw [upd_ne hc]; exact e
        rw [upd_ne (ne_of_none e1 hq)]
        exact e1
      refine ⟨.list (cs.map .int), .list [], .lst (SqL.of N2.ce) (dp_ints cs), .lst (SqL.of upd_same) .nil, shaped_ints cs, by decide, _, rfl, ?_⟩
      have two : (PyData.list (cs.map .int)).eqv (.list []) = true ∨ ((PyData.list (cs.map .int)).eqv (.list []) = false ∧ ∃ c, atI (cs.map V.int) (b % ((cs.map V.int).length : Int)) = some (.int c) ∧ (0 : Int) < ((cs.map V.int).length : Int)) := by
        cases cs with
        | nil => exact .inl rfl
        | cons c0 cs =>
          refine .inr ⟨rfl, ?_⟩
          have hl : (0 : Int) < (((c0 :: cs).map V.int).length : Int) := by rw [List.length_map, List.length_cons]; omega
          obtain ⟨j, hj⟩ := Int.eq_ofNat_of_zero_le (Int.emod_nonneg b (Int.ne_of_gt hl))
          have hlt := Int.emod_lt_of_pos b hl
          have hj2 : j < (c0 :: cs).length := by rw [hj, List.length_map] at hlt; exact Int.ofNat_lt.mp hlt
          refine ⟨(c0 :: cs)[j], ?_, hl⟩
          rw [hj]
          refine atI_nat ?_
          rw [List.getElem?_map, List.getElem?_eq_getElem hj2]
          rfl
      show if (!(PyData.list (cs.map .int)).eqv (.list [])) = true then _ else _
      rcases two with e | ⟨e, c, hc, hl⟩
      case' inl =>
        rw [e]
        refine iteF ?_
      case' inr =>
        rw [e]
        refine iteT ?_
        refine ⟨_, rfl, p, _, _, _, rfl, rfl, SqL.of N2.pn, atI_nat (j := 0) rfl, _, rfl, .inl ⟨_, rfl, _, rfl, p, _, _, _, rfl, rfl, SqL.of N2.pn, atI_nat (j := 0) rfl, a, _, rfl, .inl (SqL.of N2.ce), _, _, rfl, rfl, hl, a, _, _, _, rfl, rfl, SqL.of N2.ce, hc, ?_⟩⟩
      all_goals
        refine ⟨_, rfl, _, rfl, p, _, _, _, rfl, rfl, SqL.of N2.pn, atI_nat (j := 0) rfl, a, _, rfl, .inl (SqL.of N2.ce), _, _, rfl, rfl, _, rfl, ?_⟩
        refine ite2 (fun h1 => ?_) (fun h1 => ?_)
        · refine ⟨_, rfl, _, rfl, _, _, rfl, rfl, ⟨by decide, by decide, by decide⟩, _, _, rfl, rfl, _, rfl, ?_⟩
          refine ite2 (fun h2 => ?_) (fun h2 => ?_)
          · refine ⟨_, rfl, _, rfl, _, _, rfl, rfl, ⟨by decide, by decide, by decide⟩, _, _, rfl, rfl, _, _, rfl, rfl, .inl ⟨by decide, by decide⟩, _, rfl, _, _, rfl, rfl, .inr ⟨_, rfl, _, _, rfl, rfl, ?_⟩⟩
            refine ⟨_, rfl, .inl ⟨_, rfl, _, rfl, _, _, rfl, rfl, ⟨hm0, by omega⟩, _, rfl, p, _, _, _, rfl, rfl, N2.pn, rfl, ?_⟩⟩
            refine ⟨_, rfl, .inl ⟨_, rfl, _, rfl, _, _, rfl, rfl, hm0, ?_⟩⟩
            refine k _ (b + 1) _ _ (Int.emod_nonneg _ (by omega)) (Int.emod_lt_of_pos _ hm0) (by omega)
              ⟨upd_same, by rw [upd_ne N2.ne]; exact N2.ce, N2.b0, great0 h2 hm0, N2.ln⟩ fun c o hc e => by rw [upd_ne hc]; exact keep2 c o hc e
          · refine ⟨_, rfl, .inl ⟨_, rfl, _, _, rfl, rfl, (by show (0 : Int) < _; decide), _, rfl, _, _, rfl, rfl, .inl ⟨by decide, by decide⟩, _, _, rfl, rfl, _, _, rfl, rfl, _, _, rfl, rfl, cpow5 _ N.b0 hb, .inl ⟨_, rfl, _, _, rfl, rfl, (by show (0 : Int) < _; decide), ?_⟩⟩⟩
            refine ⟨_, rfl, _, rfl, _, _, rfl, rfl, .inl ⟨by decide, by decide⟩, _, _, rfl, rfl, _, _, rfl, rfl, cmul1 _ _, _, rfl, _, _, rfl, rfl, .inl ⟨by decide, by decide⟩, _, rfl, _, _, rfl, rfl, .inr ⟨by have := N.b0; omega, by omega⟩, _, _, rfl, rfl, _, _, rfl, rfl, _, _, rfl, rfl, cpow3 _ N.b0 hb, .inl ⟨_, rfl, _, _, rfl, rfl, (by show (0 : Int) < _; decide), ?_⟩⟩
            refine ⟨_, rfl, _, _, rfl, rfl, ⟨by decide, by decide⟩, .inl ⟨_, rfl, _, rfl, _, _, rfl, rfl, hm0, ?_⟩⟩
            exact k _ (b + 1) g _ (Int.emod_nonneg _ (by omega)) (Int.emod_lt_of_pos _ hm0) (by omega) N2 keep2
        · refine ⟨_, rfl, .inl ⟨_, rfl, _, _, rfl, rfl, (by show (0 : Int) < _; decide), _, rfl, _, _, rfl, rfl, .inl ⟨by decide, by decide⟩, _, _, rfl, rfl, _, _, rfl, rfl, _, _, rfl, rfl, cpow5 _ N.b0 hb, .inl ⟨_, rfl, _, _, rfl, rfl, (by show (0 : Int) < _; decide), ?_⟩⟩⟩
          refine ⟨_, rfl, _, rfl, _, _, rfl, rfl, .inl ⟨by decide, by decide⟩, _, _, rfl, rfl, _, _, rfl, rfl, cmul1 _ _, _, rfl, _, _, rfl, rfl, .inl ⟨by decide, by decide⟩, _, rfl, _, _, rfl, rfl, .inr ⟨by have := N.b0; omega, by omega⟩, _, _, rfl, rfl, _, _, rfl, rfl, _, _, rfl, rfl, cpow3 _ N.b0 hb, .inl ⟨_, rfl, _, _, rfl, rfl, (by show (0 : Int) < _; decide), ?_⟩⟩
          refine ⟨_, rfl, _, _, rfl, rfl, ⟨by decide, by decide⟩, .inl ⟨_, rfl, _, rfl, _, _, rfl, rfl, hm0, ?_⟩⟩
          exact k _ (b + 1) g _ (Int.emod_nonneg _ (by omega)) (Int.emod_lt_of_pos _ hm0) (by omega) N2 keep2
end
open RV
theorem same_new {H : Hp} {p : Addr} {o : HO} (n : H p = none) : Same H (upd H p o) := fun b u e => by
  rw [upd_ne (ne_of_none e n)]
  exact e
theorem Pen.same {H H' : Hp} {p a : Addr} {cs : List Int} {b g : Int} (P : Pen H p a cs b g) (k : Same H H') : Pen H' p a cs b g :=
  ⟨k _ _ P.pn, k _ _ P.ce, P.b0, P.g0, P.ln⟩
/-- a heap without p -/
def mn (H : Hp) (p : Addr) : Hp := fun c => if c = p then none else H c
theorem mn_same {H : Hp} {p : Addr} : mn H p p = none := if_pos rfl
theorem mn_ne {H : Hp} {p c : Addr} (h : c ≠ p) : mn H p c = H c := if_neg h
theorem mn_at {H : Hp} {p c : Addr} {o u : HO} (hp : H p = some u) (hc : H c = some o) (d : o ≠ u) : mn H p c = some o := by
  rw [mn_ne (ne_of hc hp d)]
  exact hc
theorem _root_.RV.Dats.mem {H : Hp} {xs : List V} {ds : List PyData} (r : Dats H xs ds) {x : V} (hx : x ∈ xs) : ∃ d ∈ ds, Dat H x d := by
  induction xs generalizing ds with
  | nil => cases hx
  | cons y ys ih =>
    cases r with
    | @cons _ d _ ds r1 r2 =>
      rcases List.mem_cons.mp hx with e | e
      · exact ⟨d, List.mem_cons_self, by rw [e]; exact r1⟩
      · obtain ⟨d', h1, h2⟩ := ih r2 e
        exact ⟨d', List.mem_cons_of_mem _ h1, h2⟩
def spPen (K : PySem.W.Frag) : Sp := fun vs H Q _ => ∃ (s : Addr) (ns : List Int), vs = [.ref s] ∧ SqL K H s (ns.map V.int) ∧ ns.length ≤ 63 ∧
  ∀ (p a : Addr) (cs : List Int) (H' : Hp), Pen H' p a cs 0 0 → Same H H' → Q (.ref p) H'
def spPick : Sp := fun vs H Q _ => ∃ (p a l : Addr) (cs : List Int) (b g : Int) (xs : List V), vs = [.ref p, .ref l] ∧ Pen H p a cs b g ∧ b ≤ 1000 ∧ l ≠ p ∧ H l = some (.lst xs) ∧
  xs ≠ [] ∧ xs.length < 1000 ∧
  ∀ (x : V) (b' g' : Int) (H' : Hp), x ∈ xs → b' ≤ b + 1 → Pen H' p a cs b' g' → (∀ c o, c ≠ p → H c = some o → H' c = some o) → Q x H'
section
variable {P : Program} {w : World} {K : PySem.W.Frag} {mg : Str → Option Value} {base : Heap} {f fD : Addr} {fd fdD : FuncData}
theorem scPen : FnScope ["_law_script"] ["_law_script"] (defScope sPen) := ⟨rfl, rfl, rfl, by decide +kernel, rfl, by decide +kernel, by decide +kernel⟩
theorem cut_ints (ns : List Int) (lo hi : Option Int) : ∃ cs : List Int, cutV (ns.map V.int) lo hi = cs.map V.int ∧ cs.length ≤ ns.length := by
  refine ⟨(ns.drop (HT.sIx (ns.map V.int).length 0 lo)).take (HT.sIx (ns.map V.int).length (ns.map V.int).length hi - HT.sIx (ns.map V.int).length 0 lo), ?_, ?_⟩
  · rw [List.map_take, List.map_drop]
    rfl
  · rw [List.length_take, List.length_drop]
    omega
theorem ok_pen (F : FnP K "_law_pen" sPen f fd) (T : Blt mg) : FnOk P w K mg base CX0 1 f fd ["_law_script"] (spPen K) := by
  refine F.ok scPen (fun vs H Q E h => ?_) (fun cdv A outer s H vs Q E hr h => ?_)
  · obtain ⟨a, ns, rfl, _⟩ := h
    rfl
  · obtain ⟨a, ns, rfl, hS, hl, k⟩ := h
    refine ⟨_, PSs.nox (pss_one (ps_ret (pe_lst (pa_cons (pe_callTy call_list_of (by rfl) T.list boot_list (pa_cons (pe_slice sl_list (pv 0) po_none (po_some pe_int)) pa_nil)) (pa_cons pe_int (pa_cons pe_int pa_nil)))))), ?_⟩
    obtain ⟨cs, e, hc⟩ := cut_ints ns none (some 63)
    refine ⟨_, rfl, _, rfl, a, _, rfl, hS, fun q hq => ?_⟩
    rw [e]
    refine ⟨q, _, rfl, .inl (SqL.of upd_same), fun r hr' => ⟨(by show 3 ≤ sizeLine; decide), fun p hp => ?_⟩⟩
    have n1 := ne_of_none (upd_same (H := upd H q (.lst (cs.map V.int))) (a := r) (o := .lst (cs.map V.int))) hp
    refine k p r cs _ ⟨upd_same, by rw [upd_ne n1, upd_same], Int.le_refl _, Int.le_refl _, by omega⟩ ((same_new hq).trans ((same_new hr').trans (same_new hp)))
theorem scPick : FnScope ["_law_pen_here", "_law_some"] ["_law_pen_here", "_law_some"] (defScope sPick) := ⟨rfl, rfl, rfl, by decide +kernel, rfl, by decide +kernel, by decide +kernel⟩
theorem ok_pick (F : FnP K "_law_pick" sPick f fd) (T : Blt mg) (FD : FnP K "_law_draw" sDraw fD fdD) (gD : mg "_law_draw" = some (.ref fD)) :
    FnOk P w K mg base CX0 2 f fd ["_law_pen_here", "_law_some"] spPick := by
  have GD : FnOk P w K mg base CX0 1 fD fdD ["_law_pen_here", "_law_many"] spDraw := ok_draw FD T
  have bD : Binds K fdD ["_law_pen_here", "_law_many"] [] := FD.bindsN fun _ _ _ _ _ _ us hl => match us, hl with | [_, _], _ => rfl
  refine F.ok scPick (fun vs H Q E h => ?_) (fun cdv A outer s H vs Q E hr h => ?_)
  · obtain ⟨p, a, l, cs, b, g, xs, rfl, _⟩ := h
    rfl
  · obtain ⟨p, a, l, cs, b, g, xs, rfl, N, hb, nl, hL, hx, hz, k⟩ := h
    refine ⟨_, PSs.nox (pss_one (ps_ret (pe_ix ix_list (pv 1) (pe_call GD hr (by rfl) gD FD.kp bD .nil pass0 (pa_cons (pv 0) (pa_cons (pe_callB call_len_seq (by rfl) T.len PySem.boot_len (pa_cons (pv 1) pa_nil)) pa_nil))) (fun _ _ => rfl)))), ?_⟩
    have h0 : (0 : Int) < (xs.length : Int) := by
      cases xs with
      | nil => exact absurd rfl hx
      | cons x xs => rw [List.length_cons]; omega
    refine ⟨_, rfl, _, rfl, _, rfl, l, _, rfl, .inl (SqL.of hL), p, a, cs, b, g, _, rfl, N, hb, h0, by omega, fun r b' g' H' r0 r1 hb' N' kp => ?_⟩
    obtain ⟨j, rfl⟩ := Int.eq_ofNat_of_zero_le r0
    have hj : j < xs.length := Int.ofNat_lt.mp r1
    exact ⟨l, xs, _, _, rfl, rfl, SqL.of (kp l _ nl hL), atI_nat (List.getElem?_eq_getElem hj), k _ b' g' H' (List.getElem_mem hj) hb' N' kp⟩
end
end K7
set_option Elab.async false
set_option linter.all false
set_option maxRecDepth 100000
set_option maxHeartbeats 1000000
/-! The checks: is_integer, is_within, is_fix. -/
namespace K7
open PySem PySem.Spec PyProof.Rows L2 RV
abbrev sFix : Stmt := top 4
structure Blt2 (mg : Str → Option Value) : Prop where
  isi : mg "isinstance" = none
  int : mg "int" = none
  bool : mg "bool" = none
  str : mg "str" = none
  len : mg "len" = none
  all : mg "all" = none
theorem boot_T {x : Str} {t : String} (h : bootBuiltins x = some (.type t) := by decide +kernel) : bootBuiltins x = some (.type t) := h
/-- isinstance(e, T) of a value of a built-in type -/
def rIsB (K : PySem.W.Frag) : List V → Hp → VK → Prop := rIsi K
theorem isb {K : PySem.W.Frag} {H : Hp} {v : V} {a b : String} {r : Bool} {Q : VK} (t : TyX K H v (.type a)) (h : kitB a b = some r) (k : Q (.bl r) H) : rIsi K [v, .ty b] H Q := ⟨v, .ty b, _, _, r, rfl, .ty b, t, kit_ty h, k⟩
theorem if_posB {b : Bool} {A B : Prop} (hb : b = true) (h : A) : if b = true then A else B := by rw [if_pos hb]; exact h
theorem if_negB {b : Bool} {A B : Prop} (hb : b = false) (h : B) : if b = true then A else B := by rw [if_neg (by rw [hb]; exact Bool.false_ne_true)]; exact h
end K7
set_option Elab.async false
set_option linter.all false
set_option maxRecDepth 100000
set_option maxHeartbeats 1000000
namespace K7
open PySem PySem.Spec PyProof.Rows L2 RV
def letB (c : Nat) : Bool := decide (97 ≤ c) && decide (c ≤ 122)
/-- 1 to 8 letters from a to z -/
def isFixB (x : Str) : Bool := decide (1 ≤ (x.length : Int)) && (decide ((x.length : Int) ≤ 8) && x.cps.toList.all letB)
theorem one_lt {a b : Nat} : ([a] < [b]) ↔ a < b := by
  rw [List.cons_lt_cons_iff]
  constructor
  · rintro (h | ⟨_, h⟩)
    · exact h
    · cases h
  · exact .inl
theorem yesB {σ : L2.St} {H : Hp} {F G : Hp → Prop} (h : F H) : tYes σ H (fun b H3 => if b = true then F H3 else G H3) := by
  show if true = true then F H else G H
  exact if_posB rfl h
theorem let_eq (c : Nat) : (!decide ([c] < [97]) && !decide ([122] < [c])) = letB c := by
  unfold letB
  have e1 : ([c] < [97]) ↔ c < 97 := one_lt
  have e2 : ([122] < [c]) ↔ 122 < c := one_lt
  rw [decide_eq_decide.mpr e1, decide_eq_decide.mpr e2, ← decide_not, ← decide_not, decide_eq_decide.mpr (Nat.not_lt), decide_eq_decide.mpr (Nat.not_lt)]
def spFix (K : PySem.W.Frag) : Sp := fun vs H Q _ => ∃ v, vs = [v] ∧ ((∃ x, v = .str x ∧ x.length ≤ 1000000 ∧ ∀ H', Same H H' → Q (.bl (isFixB x)) H') ∨ (∃ t, TyX K H v t ∧ PySem.W.kitOne K t (.type "str") = some false ∧ Q (.bl false) H))
section
variable {P : Program} {w : World} {K : PySem.W.Frag} {mg : Str → Option Value} {base : Heap} {f fI : Addr} {fd fdI : FuncData}
abbrev rLeS : R2 := fun x y H Q => ∃ i j, x = V.str i ∧ y = V.str j ∧ Q (V.bl (!decide (j.cps.toList < i.cps.toList))) H
abbrev scFix_N : List Str := ["value", "letter"]
theorem scFix : FnScope scFix_N ["value"] (defScope sFix) := ⟨rfl, rfl, rfl, by decide +kernel, rfl, by decide +kernel, by decide +kernel⟩
def teLet : TE := tChain rLeS rLeS (tC (.str "a")) (tVar 1) (tC (.str "z"))
theorem lets_read {σ : L2.St} {H : Hp} {Q : VK} {x : Str} (h0 : σ[0]? = some (some (.str x))) (hw : ∀ v, wipe ((wipe σ [1]).set 1 v) [1] = wipe σ [1]) (hi : ∀ v, ((wipe σ [1]).set 1 (some v))[1]? = some (some v)) (hz : x.length ≤ 1000000)
    (k : ∀ r H', Same H H' → H' r = some (.lst ((x.cps.toList.map letB).map V.bl)) → Q (.ref r) H') : tLc (iStr (tVar 0)) (gName 1) tYes teLet [1] σ H Q := by
  refine ⟨_, h0, x, rfl, fun D nD => lc_it walk_str (fun n H' => Same H H' ∧ H' D = some (.lst (((x.cps.toList.take n).map letB).map V.bl))) ⟨fun c o e => ?_, upd_same⟩ (fun _ _ _ _ => trivial) ?_ ?_⟩
  · rw [upd_ne (ne_of_none e nD)]
    exact e
  · rintro n v H1 H2 hn ⟨s1, hD⟩ ⟨rfl, c, hc, rfl⟩
    have hc2 : x.cps.toList[n]? = some c := by rw [Array.getElem?_toList]; exact hc
    obtain ⟨hl, hv⟩ := List.getElem?_eq_some_iff.mp hc2
    have more : x.cps.toList.take (n + 1) = x.cps.toList.take n ++ [c] := by
      rw [← hv]
      exact List.take_succ_eq_append_getElem hl
    have fin : ∀ b, b = letB c → ∃ acc, H2 D = some (.lst acc) ∧ acc.length < sizeLine ∧ (Same H (upd H2 D (.lst (acc ++ [V.bl b]))) ∧ upd H2 D (.lst (acc ++ [V.bl b])) D = some (.lst (((x.cps.toList.take (n + 1)).map letB).map V.bl))) := by
      rintro b rfl
      refine ⟨_, hD, ?_, ?_, ?_⟩
      · have : x.cps.toList.length = x.length := by simp [Str.length]
        rw [List.length_map, List.length_map, List.length_take, sizeLine_eq]
        omega
      · intro c o hc
        rw [upd_ne (ne_of_none hc nD)]
        exact s1 _ _ hc
      · rw [more, List.map_append, List.map_append]
        exact upd_same
    refine ⟨hw _, yesB ?_⟩
    refine ⟨_, hi _, "a", ⟨#[c]⟩, rfl, rfl, _, rfl, ?_⟩
    have ea : ("a" : Str).cps.toList = [97] := by decide +kernel
    have ez : ("z" : Str).cps.toList = [122] := by decide +kernel
    cases e : (!decide ((⟨#[c]⟩ : Str).cps.toList < ("a" : Str).cps.toList)) with
    | true =>
      refine if_posB rfl ⟨⟨#[c]⟩, "z", rfl, rfl, fin _ ?_⟩
      rw [← let_eq]
      rw [ea] at e
      rw [ez]
      have e' : (!decide ([c] < [97])) = true := e
      rw [e', Bool.true_and]
    | false =>
      refine if_negB rfl (fin _ ?_)
      rw [← let_eq]
      rw [ea] at e
      have e' : (!decide ([c] < [97])) = false := e
      rw [e', Bool.false_and]
  · rintro H1 ⟨s1, hD⟩
    rw [List.take_of_length_le (by simp)] at hD
    exact k D H1 s1 hD
theorem ok_fix (F : FnP K "is_fix" sFix f fd) (T : Blt2 mg) : FnOk P w K mg base CX0 1 f fd ["value"] (spFix K) := by
  refine F.ok scFix (fun vs H Q E h => ?_) (fun cdv A outer s H vs Q E hr h => ?_)
  · obtain ⟨v, rfl, _⟩ := h
    rfl
  · obtain ⟨v, rfl, k⟩ := h
    refine ⟨_, PSs.nox (pss_cons (ps_if (PW.pt (pw_or (pt_not (pt_val (pe_callB call_isi (by rfl) T.isi PyProof.Rows.boot_isinstance (pa_cons (pv 0) (pa_cons (pe_bltn (v := .ty "str") (by rfl) T.str boot_T rfl) pa_nil)))))
        (pw_or1 (pt_not (pt_chain op_le op_le pe_int (pe_callB call_len_str (by rfl) T.len PySem.boot_len (pa_cons (pv 0) pa_nil)) pe_int))))) (pss_one (ps_ret pe_bl)) pss_nil)
      (pss_one (ps_ret (pe_callB (cr_all rfl) (by rfl) T.all PyProof.Rows.boot_all (pa_cons (pe_lc (own := [("letter", 1)]) (g := gName 1) (tt := tYes) (te := teLet) rfl scFix.nd (pi_str (pv 0)) (blkOk_by (N := scFix_N) (sc := defScope sFix) (by decide +kernel))
        (fun _ _ _ _ _ => pg_name (i := 1) scFix.nd rfl (.inl rfl)) (fun _ _ _ _ _ => pts_nil) (fun _ _ _ _ _ => pe_chain op_le_str op_le_str pe_str (pv 1) pe_str)) pa_nil))))), ?_⟩
    rcases k with ⟨x, rfl, hz, k⟩ | ⟨t, ht, h1, k⟩
    · refine ⟨.str x, rfl, .str x, .ty "str", _, _, true, rfl, .ty _, .base (.str x), kit_ty (by decide +kernel), true, rfl, if_negB rfl ?_⟩
      refine ⟨.str x, rfl, x, rfl, by rw [sizeLine_eq]; omega, 1, _, rfl, rfl, _, rfl, ?_⟩
      by_cases h1 : (1 : Int) ≤ (x.length : Int)
      · refine if_posB (decide_eq_true h1) ⟨_, 8, rfl, rfl, _, rfl, ?_⟩
        by_cases h2 : (x.length : Int) ≤ 8
        · refine if_negB (by rw [decide_eq_true h2]; rfl) ?_
          show tLc (iStr (tVar 0)) (gName 1) tYes teLet [1] (L2.start scFix_N [.str x]) H fun r H1 => rAll K [r] H1 Q
          refine lets_read (by simp [L2.start]) (by intro v; simp [wipe, L2.start]) (by intro v; simp [wipe, L2.start]) hz fun r H' s' R => ⟨r, _, rfl, SqL.of R, ?_⟩
          have e : isFixB x = (x.cps.toList.map letB).all id := by
            unfold isFixB
            rw [decide_eq_true h1, decide_eq_true h2, Bool.true_and, Bool.true_and, List.all_map]
            rfl
          rw [← e]
          exact k H' s'
        · refine if_posB (by rw [decide_eq_false h2]; rfl) ?_
          have e : isFixB x = false := by
            unfold isFixB
            rw [decide_eq_false h2, Bool.false_and, Bool.and_false]
          rw [e] at k
          exact k H (fun _ _ z => z)
      · refine if_negB (decide_eq_false h1) ⟨_, rfl, if_posB rfl ?_⟩
        have e : isFixB x = false := by
          unfold isFixB
          rw [decide_eq_false h1, Bool.false_and]
        rw [e] at k
        exact k H (fun _ _ z => z)
    · exact ⟨v, rfl, v, .ty "str", _, _, false, rfl, .ty _, ht, h1, false, rfl, if_posB rfl (if_posB rfl k)⟩
end
end K7
set_option Elab.async false
set_option linter.all false
set_option maxRecDepth 100000
set_option maxHeartbeats 4000000
/-! Own exception classes whose __init__ keeps its one or two parameters as fields: made by position and by name. -/
namespace EI
open PySem PySem.Spec PyProof.Rows L2 EV He EF
/-- an error laid anew at a, its dict at d -/
def mkE (H : Hp) (a d C : Addr) (fs : List (Str × V)) : Hp := upd (upd H d (exd d fs)) a (exo a C (some d))
theorem mkE_at {H : Hp} {a d C : Addr} {fs : List (Str × V)} (h : d ≠ a) : ErrAt (mkE H a d C fs) a C d fs :=
  ⟨upd_same, by
    unfold mkE
    rw [upd_ne h, upd_same]⟩
theorem mkE_same {H : Hp} {a d C : Addr} {fs : List (Str × V)} (na : H a = none) (nd : H d = none) : Same H (mkE H a d C fs) := fun b o e => by
  unfold mkE
  rw [upd_ne (ne_of_none e na), upd_ne (ne_of_none e nd)]
  exact e
theorem _root_.EV.ErrAt.same {H H' : Hp} {a C d : Addr} {fs : List (Str × V)} (r : ErrAt H a C d fs) (k : Same H H') : ErrAt H' a C d fs := ⟨k _ _ r.ob, k _ _ r.dc⟩
theorem _root_.EV.IsErr.same {H H' : Hp} {a C : Addr} (r : IsErr H a C) (k : Same H H') : IsErr H' a C := by
  rcases r with ⟨d, fs, r⟩ | r
  · exact .inl ⟨d, fs, r.same k⟩
  · exact .inr (k _ _ r)
theorem mk1_eq {H : Hp} {a d C : Addr} {fs : List (Str × V)} {o : HO} (h : d ≠ a) : upd (upd (upd H a o) d (exd d fs)) a (exo a C (some d)) = mkE H a d C fs := by
  funext b
  unfold mkE
  by_cases e : b = a
  · rw [e, upd_same, upd_same]
  · rw [upd_ne e, upd_ne e]
    by_cases e2 : b = d
    · rw [e2, upd_same, upd_same]
    · rw [upd_ne e2, upd_ne e2, upd_ne e]
theorem mk2_eq {H : Hp} {a d C : Addr} {fs gs : List (Str × V)} {o : HO} (h : d ≠ a) : upd (upd (upd (upd H a o) d (exd d fs)) a (exo a C (some d))) d (exd d gs) = mkE H a d C gs := by
  funext b
  unfold mkE
  by_cases e2 : b = d
  · rw [e2, upd_same, upd_ne h, upd_same]
  · rw [upd_ne e2]
    by_cases e : b = a
    · rw [e, upd_same, upd_same]
    · rw [upd_ne e, upd_ne e, upd_ne e2, upd_ne e2, upd_ne e]
def spE1 (C : Addr) (f : Str) : Sp := fun vs H Q _ => ∃ (a : Addr) (v : V), vs = [.ref a, v] ∧ H a = some (exo a C none) ∧
  ∀ d, H d = none → d ≠ a → Q .non (upd (upd H d (exd d [(f, v)])) a (exo a C (some d)))
def spE2 (C : Addr) (f g : Str) : Sp := fun vs H Q _ => ∃ (a : Addr) (v w : V), vs = [.ref a, v, w] ∧ H a = some (exo a C none) ∧
  ∀ d, H d = none → d ≠ a → Q .non (upd (upd (upd H d (exd d [(f, v)])) a (exo a C (some d))) d (exd d [(g, w), (f, v)]))
/-- the body `self.f = f` -/
structure Body1 (st : Stmt) (f : Str) : Prop where
  bd : ∃ q1 q2 q3 q4, defBody st = [.Assign [.Attribute (.Name "self" q1) f q2] (.Name f q3) q4]
  sc : defScope st = { kind := .function, names := [("self", .local), (f, .local)], isGenerator := false, isCoroutine := false, more := [] }
  kb : ∀ (qual : Str) (kV doc pm : Value) (an : Option Addr) (cdv ct a v : Value), bindArgs (PySem.W.fnOf "__init__" qual (defArgs st) (defBody st) (defScope st) .none kV doc pm an cdv ct) ⟨[a], [(f, v)]⟩ = pure [(("self" : Str), a), (f, v)]
  pb : ∀ (qual : Str) (kV doc pm : Value) (an : Option Addr) (cdv ct a v : Value), bindArgs (PySem.W.fnOf "__init__" qual (defArgs st) (defBody st) (defScope st) .none kV doc pm an cdv ct) ⟨[a, v], []⟩ = pure [(("self" : Str), a), (f, v)]
  ne : f ≠ "self"
  n1 : (f == ("__debug__" : Str)) = false
  n2 : (f == ("__classdict__" : Str)) = false
section
variable {P : Program} {w : World} {K : PySem.W.Frag} {mg : Str → Option Value} {base : Heap} {fI : Addr} {fd : FuncData} {C : Addr} {f g qual : Str} {st : Stmt}
theorem sc1 (B : Body1 st f) : FnScope ["self", f] ["self", f] (defScope st) := by
  rw [B.sc]
  refine ⟨rfl, rfl, rfl, ?_, rfl, ?_, by simp⟩
  · simp [B.ne.symm]
  · intro x hx
    rcases List.mem_cons.mp hx with rfl | hx
    · exact .inl rfl
    · rcases List.mem_cons.mp hx with rfl | hx
      · refine .inl ?_
        show List.lookup x [(("self" : Str), NameKind.local), (x, NameKind.local)] = _
        have e : (x == ("self" : Str)) = false := by simpa using B.ne
        simp [List.lookup, e]
      · cases hx
theorem vis1 (B : Body1 st f) : Vis (defScope st) f := by
  have := (sc1 B).par f (by simp)
  rcases this with h | h
  · exact .inl h
  · exact .inr (.inl h)
theorem vis0 (B : Body1 st f) : Vis (defScope st) "self" := by
  rw [B.sc]
  exact .inl rfl
theorem ok_init1 (F : FunD K "__init__" qual (defArgs st) (defBody st) (defScope st) [] [] fI fd) (B : Body1 st f) (T : OexC K C) (no : PySem.W.findIn K (.ref C) f = some none) :
    FnOk P w K mg base CX0 1 fI fd ["self", f] (spE1 C f) := by
  refine F.ok (sc1 B) (fun vs H Q E h => ?_) (fun cdv A outer s H vs Q E hr h => ?_)
  · obtain ⟨a, v, rfl, _⟩ := h
    rfl
  · obtain ⟨a, v, rfl, ha, k⟩ := h
    obtain ⟨q1, q2, q3, q4, eb⟩ := B.bd
    rw [eb]
    refine ⟨_, PSs.nox (pss_one (ps_ost (pe_var (i := 0) rfl (vis0 B)) (pe_var (i := 1) rfl (vis1 B) B.n1 B.n2))), ?_⟩
    exact ⟨v, rfl, _, rfl, a, C, rfl, T, no, .inl ⟨ha, fun d hd ne => k d hd ne⟩⟩
/-- how a call binds -/
theorem kw1 (F : FunD K "__init__" qual (defArgs st) (defBody st) (defScope st) [] [] fI fd) (B : Body1 st f) (s : Shared) (a v : Value) : BindsTo s fd ⟨[a], [(f, v)]⟩ [(("self" : Str), a), (f, v)] := by
  obtain ⟨oc, od, dV, kV, doc, pm, an, cdv, ct, osl, rfl, lk, hcd, hD, hK⟩ := F.ex
  rcases hD with ⟨_, rfl⟩ | ⟨e, _⟩
  · exact .of_eq (B.kb _ _ _ _ _ _ _ _ _)
  · exact absurd rfl e
theorem pos1 (F : FunD K "__init__" qual (defArgs st) (defBody st) (defScope st) [] [] fI fd) (B : Body1 st f) : Binds K fd ["self", f] [] :=
  F.bindsN fun _ _ _ _ _ _ us hl => match us, hl with | [_, _], _ => B.pb _ _ _ _ _ _ _ _ _
end
/-- what is known of such a class x with the field f -/
structure Cl1 (P : Program) (w : World) (K : PySem.W.Frag) (mg : Str → Option Value) (base : Heap) (x f : Str) (bs : List Str) : Prop where
  e : ErrK K x bs
  mkr : ∃ (fI : Addr) (fd : FuncData), PySem.W.findIn K (.ref (ga K x)) "__init__" = some (some (.ref fI)) ∧ PySem.W.typeIn K (.ref fI) = some (.type "function") ∧
    FnOk P w K mg base CX0 1 fI fd ["self", f] (spE1 (ga K x) f) ∧ Binds K fd ["self", f] [] ∧ ∀ (s : Shared) (a v : Value), BindsTo s fd ⟨[a], [(f, v)]⟩ [(("self" : Str), a), (f, v)]
  no : PySem.W.findIn K (.ref (ga K x)) f = some none
  gl : mg x = some (.ref (ga K x))
/-- x(e) | x(f = e): a new error -/
def tE1 (C : Addr) (f : Str) (te : TE) : TE := fun σ H Q => te σ H fun v H1 => ∀ a d, H1 a = none → H1 d = none → d ≠ a → Q (.ref a) (mkE H1 a d C [(f, v)])
def wE1 (C : Addr) (f : Str) (Q : VK) : List V → Hp → Prop := fun vs H1 => match vs with
  | [v] => ∀ a d, H1 a = none → H1 d = none → d ≠ a → Q (.ref a) (mkE H1 a d C [(f, v)])
  | _ => False
theorem wE1_of {C : Addr} {f : Str} {Q : VK} : ∀ {vs : List V} {H1 : Hp}, wE1 C f Q vs H1 → ∃ v, vs = [v] ∧ ∀ a d, H1 a = none → H1 d = none → d ≠ a → Q (.ref a) (mkE H1 a d C [(f, v)])
  | [v], _, h => ⟨v, rfl, h⟩
  | [], _, h => h.elim
  | _ :: _ :: _, _, h => h.elim
section
variable {X : Cx} {x f : Str} {bs : List Str} {e : Expr} {te : TE} {p pos kpos : Pos} {k : Nat}
theorem tE1_to {C : Addr} {f : Str} {H1 : Hp} {v : V} {Q : VK} (q : ∀ a d, H1 a = none → H1 d = none → d ≠ a → Q (.ref a) (mkE H1 a d C [(f, v)])) (a : Addr) (ha : H1 a = none) :
    spE1 C f [.ref a, v] (upd H1 a (exo a C none)) (fun u H2 => u = .non ∧ Q (.ref a) H2) E0 := by
  refine ⟨a, v, rfl, upd_same, fun d hd ne => ⟨rfl, ?_⟩⟩
  rw [upd_ne ne] at hd
  rw [mk1_eq ne]
  exact q a d ha hd ne
theorem pe_e1 (T : Cl1 X.prog X.w X.K X.mg X.base x f bs) (hr : Room 2 X.A) (hc : Passes CX0 X E0) (hg : Gl X x) (he : PE X e te)
    (hdb : (x == ("__debug__" : Str)) = false := by decide) (hs : starEach [e] X.env = (false, eval e X.env) :: starEach [] X.env := by rfl)
    (hpl : (backTo pos (starEach [] X.env)).any (·.1) = false := by rfl) : PE X (.Call (.Name x p) [e] [] pos) (tE1 (ga X.K x) f te) := by
  obtain ⟨fI, fd, iC, tI, F1, b1, _⟩ := T.mkr
  refine ⟨fun pins s σ H Q I h => ?_⟩
  refine wpAny_Call_Name_kw (ld_glob I hg T.gl ?_ hdb)
  refine PySem.W.callWith_K (h₀ := X.base) I.ok.mod.kin T.e.ox.kC (thn ((pa_cons he pa_nil (hs := hs)).run pos pins s σ H (wE1 (ga X.K x) f Q) I h) fun us s1 ⟨vs, H1, I1, r1, q1⟩ => ⟨I1.kIn, ?_⟩) hs hpl
  obtain ⟨v, rfl, q⟩ := wE1_of q1
  show wpAny _ _ (call (.ref (ga X.K x)) us) _ _ _
  refine run_err T.e.ox iC tI F1 hr (fun s' a X' => ?_) hc I1 r1 ?_ (fun a ha => tE1_to q a ha)
  · have hl : us.length = 1 := r1.length.symm
    have z := b1 s' (.ref a :: us) X' (by rw [List.append_nil, List.length_cons, hl]; rfl)
    rw [List.append_nil] at z
    exact z
  · rw [← r1.length, sizeLine_eq]
    exact (by decide : 1 ≤ 16777216)
theorem pe_e1K (T : Cl1 X.prog X.w X.K X.mg X.base x f bs) (hr : Room 2 X.A) (hc : Passes CX0 X E0) (hg : Gl X x) (he : PE X e te)
    (hall : (backToKw pos (keywordEach [⟨some f, e, kpos⟩] X.env)).all (·.1.isSome) = true := by rfl)
    (hks : (backToKw pos (keywordEach [⟨some f, e, kpos⟩] X.env)).filterMap (·.1) = [f] := by rfl)
    (hdb : (x == ("__debug__" : Str)) = false := by decide)
    (hpl : ((backTo pos (starEach [] X.env)).any (·.1) || (backToKw pos (keywordEach [⟨some f, e, kpos⟩] X.env)).any (·.1.isNone)) = false := by rfl) :
    PE X (.Call (.Name x p) [] [⟨some f, e, kpos⟩] pos) (tE1 (ga X.K x) f te) := by
  obtain ⟨fI, fd, iC, tI, F1, b1, bk⟩ := T.mkr
  refine ⟨fun pins s σ H Q I h => ?_⟩
  refine wpAny_Call_Name_kw (ld_glob I hg T.gl ?_ hdb)
  refine PySem.W.callWith_KW0 (h₀ := X.base) I.ok.mod.kin T.e.ox.kC hall ?_ hpl
  refine thn ((pk_cons he pk_nil).run pos pins s σ H (wE1 (ga X.K x) f Q) I h) fun ws s2 ⟨zs, H2, I2, rz, q2⟩ => ⟨I2.kIn, ?_⟩
  rw [hks]
  obtain ⟨v, rfl, q⟩ := wE1_of q2
  refine run_err T.e.ox iC tI F1 hr (fun s' a X' => ?_) hc I2 rz (Nat.zero_le _) (fun a ha => tE1_to q a ha)
  cases rz with
  | cons r1 r2 =>
    cases r2
    exact bk s' _ _
end
/-! ### two fields -/
/-- the body `self.f = f; self.g = g` -/
structure Body2 (st : Stmt) (f g : Str) : Prop where
  bd : ∃ q1 q2 q3 q4 r1 r2 r3 r4, defBody st = [.Assign [.Attribute (.Name "self" q1) f q2] (.Name f q3) q4, .Assign [.Attribute (.Name "self" r1) g r2] (.Name g r3) r4]
  sc : FnScope ["self", f, g] ["self", f, g] (defScope st)
  v0 : Vis (defScope st) "self"
  v1 : Vis (defScope st) f
  v2 : Vis (defScope st) g
  kb : ∀ (qual : Str) (kV doc pm : Value) (an : Option Addr) (cdv ct a v w : Value), bindArgs (PySem.W.fnOf "__init__" qual (defArgs st) (defBody st) (defScope st) .none kV doc pm an cdv ct) ⟨[a], [(g, w), (f, v)]⟩ = pure [(("self" : Str), a), (f, v), (g, w)]
  pb : ∀ (qual : Str) (kV doc pm : Value) (an : Option Addr) (cdv ct a v w : Value), bindArgs (PySem.W.fnOf "__init__" qual (defArgs st) (defBody st) (defScope st) .none kV doc pm an cdv ct) ⟨[a, v, w], []⟩ = pure [(("self" : Str), a), (f, v), (g, w)]
  n1 : (f == ("__debug__" : Str)) = false
  n2 : (f == ("__classdict__" : Str)) = false
  n3 : (g == ("__debug__" : Str)) = false
  n4 : (g == ("__classdict__" : Str)) = false
section
variable {P : Program} {w : World} {K : PySem.W.Frag} {mg : Str → Option Value} {base : Heap} {fI : Addr} {fd : FuncData} {C : Addr} {f g qual : Str} {st : Stmt}
theorem ok_init2 (F : FunD K "__init__" qual (defArgs st) (defBody st) (defScope st) [] [] fI fd) (B : Body2 st f g) (T : OexC K C) (no : PySem.W.findIn K (.ref C) f = some none) (no2 : PySem.W.findIn K (.ref C) g = some none) :
    FnOk P w K mg base CX0 1 fI fd ["self", f, g] (spE2 C f g) := by
  refine F.ok B.sc (fun vs H Q E h => ?_) (fun cdv A outer s H vs Q E hr h => ?_)
  · obtain ⟨a, v, u, rfl, _⟩ := h
    rfl
  · obtain ⟨a, v, u, rfl, ha, k⟩ := h
    obtain ⟨q1, q2, q3, q4, r1, r2, r3, r4, eb⟩ := B.bd
    rw [eb]
    refine ⟨_, PSs.nox (pss_cons (ps_ost (pe_var (i := 0) rfl B.v0) (pe_var (i := 1) rfl B.v1 B.n1 B.n2)) (pss_one (ps_ost (pe_var (i := 0) rfl B.v0) (pe_var (i := 2) rfl B.v2 B.n3 B.n4)))), ?_⟩
    refine ⟨v, rfl, _, rfl, a, C, rfl, T, no, .inl ⟨ha, fun d hd ne => ?_⟩⟩
    exact ⟨u, rfl, _, rfl, a, C, rfl, T, no2, .inr ⟨d, _, upd_same, by rw [upd_ne ne, upd_same], (by show 1 ≤ 900; decide), k d hd ne⟩⟩
theorem kw2 (F : FunD K "__init__" qual (defArgs st) (defBody st) (defScope st) [] [] fI fd) (B : Body2 st f g) (s : Shared) (a v u : Value) : BindsTo s fd ⟨[a], [(g, u), (f, v)]⟩ [(("self" : Str), a), (f, v), (g, u)] := by
  obtain ⟨oc, od, dV, kV, doc, pm, an, cdv, ct, osl, rfl, lk, hcd, hD, hK⟩ := F.ex
  rcases hD with ⟨_, rfl⟩ | ⟨e, _⟩
  · exact .of_eq (B.kb _ _ _ _ _ _ _ _ _ _)
  · exact absurd rfl e
theorem pos2 (F : FunD K "__init__" qual (defArgs st) (defBody st) (defScope st) [] [] fI fd) (B : Body2 st f g) : Binds K fd ["self", f, g] [] :=
  F.bindsN fun _ _ _ _ _ _ us hl => match us, hl with | [_, _, _], _ => B.pb _ _ _ _ _ _ _ _ _ _
end
structure Cl2 (P : Program) (w : World) (K : PySem.W.Frag) (mg : Str → Option Value) (base : Heap) (x f g : Str) (bs : List Str) : Prop where
  e : ErrK K x bs
  mkr : ∃ (fI : Addr) (fd : FuncData), PySem.W.findIn K (.ref (ga K x)) "__init__" = some (some (.ref fI)) ∧ PySem.W.typeIn K (.ref fI) = some (.type "function") ∧
    FnOk P w K mg base CX0 1 fI fd ["self", f, g] (spE2 (ga K x) f g) ∧ Binds K fd ["self", f, g] [] ∧ ∀ (s : Shared) (a v u : Value), BindsTo s fd ⟨[a], [(g, u), (f, v)]⟩ [(("self" : Str), a), (f, v), (g, u)]
  no : PySem.W.findIn K (.ref (ga K x)) f = some none
  no2 : PySem.W.findIn K (.ref (ga K x)) g = some none
  gl : mg x = some (.ref (ga K x))
def wE2 (C : Addr) (f g : Str) (Q : VK) : List V → Hp → Prop := fun vs H1 => match vs with
  | [v, u] => ∀ a d, H1 a = none → H1 d = none → d ≠ a → Q (.ref a) (mkE H1 a d C [(g, u), (f, v)])
  | _ => False
theorem wE2_of {C : Addr} {f g : Str} {Q : VK} : ∀ {vs : List V} {H1 : Hp}, wE2 C f g Q vs H1 → ∃ v u, vs = [v, u] ∧ ∀ a d, H1 a = none → H1 d = none → d ≠ a → Q (.ref a) (mkE H1 a d C [(g, u), (f, v)])
  | [v, u], _, h => ⟨v, u, rfl, h⟩
  | [], _, h => h.elim
  | [_], _, h => h.elim
  | _ :: _ :: _ :: _, _, h => h.elim
section
variable {X : Cx} {x f g : Str} {bs : List Str} {e e2 : Expr} {te te2 : TE} {p pos kpos kpos2 : Pos} {k : Nat}
theorem tE2_to {C : Addr} {f g : Str} {H1 : Hp} {v u : V} {Q : VK} (q : ∀ a d, H1 a = none → H1 d = none → d ≠ a → Q (.ref a) (mkE H1 a d C [(g, u), (f, v)])) (a : Addr) (ha : H1 a = none) :
    spE2 C f g [.ref a, v, u] (upd H1 a (exo a C none)) (fun z H2 => z = .non ∧ Q (.ref a) H2) E0 := by
  refine ⟨a, v, u, rfl, upd_same, fun d hd ne => ⟨rfl, ?_⟩⟩
  rw [upd_ne ne] at hd
  rw [mk2_eq ne]
  exact q a d ha hd ne
/-- x(e, e2) -/
theorem pe_e2 (T : Cl2 X.prog X.w X.K X.mg X.base x f g bs) (hr : Room 2 X.A) (hc : Passes CX0 X E0) (hg : Gl X x) (he : PE X e te) (he2 : PE X e2 te2)
    (hdb : (x == ("__debug__" : Str)) = false := by decide) (hs : starEach [e, e2] X.env = (false, eval e X.env) :: starEach [e2] X.env := by rfl) (hs2 : starEach [e2] X.env = (false, eval e2 X.env) :: starEach [] X.env := by rfl)
    (hpl : (backTo pos (starEach [e2] X.env)).any (·.1) = false := by rfl) :
    PE X (.Call (.Name x p) [e, e2] [] pos) (fun σ H Q => te σ H fun v H1 => te2 σ H1 fun u H2 => wE2 (ga X.K x) f g Q [v, u] H2) := by
  obtain ⟨fI, fd, iC, tI, F1, b1, _⟩ := T.mkr
  refine ⟨fun pins s σ H Q I h => ?_⟩
  refine wpAny_Call_Name_kw (ld_glob I hg T.gl ?_ hdb)
  refine PySem.W.callWith_K (h₀ := X.base) I.ok.mod.kin T.e.ox.kC (thn ((pa_cons he (pa_cons he2 pa_nil (hs := hs2)) (hs := hs)).run pos pins s σ H (wE2 (ga X.K x) f g Q) I h) fun us s1 ⟨vs, H1, I1, r1, q1⟩ => ⟨I1.kIn, ?_⟩) hs hpl
  obtain ⟨v, u, rfl, q⟩ := wE2_of q1
  show wpAny _ _ (call (.ref (ga X.K x)) us) _ _ _
  refine run_err T.e.ox iC tI F1 hr (fun s' a X' => ?_) hc I1 r1 ?_ (fun a ha => tE2_to q a ha)
  · have hl : us.length = 2 := r1.length.symm
    have z := b1 s' (.ref a :: us) X' (by rw [List.append_nil, List.length_cons, hl]; rfl)
    rw [List.append_nil] at z
    exact z
  · rw [← r1.length, sizeLine_eq]
    exact (by decide : 2 ≤ 16777216)
/-- x(g = e, f = e2) -/
theorem pe_e2K (T : Cl2 X.prog X.w X.K X.mg X.base x f g bs) (hr : Room 2 X.A) (hc : Passes CX0 X E0) (hg : Gl X x) (he : PE X e te) (he2 : PE X e2 te2)
    (hall : (backToKw pos (keywordEach [⟨some g, e, kpos⟩, ⟨some f, e2, kpos2⟩] X.env)).all (·.1.isSome) = true := by rfl)
    (hks : (backToKw pos (keywordEach [⟨some g, e, kpos⟩, ⟨some f, e2, kpos2⟩] X.env)).filterMap (·.1) = [g, f] := by rfl)
    (hdb : (x == ("__debug__" : Str)) = false := by decide)
    (hpl : ((backTo pos (starEach [] X.env)).any (·.1) || (backToKw pos (keywordEach [⟨some g, e, kpos⟩, ⟨some f, e2, kpos2⟩] X.env)).any (·.1.isNone)) = false := by rfl) :
    PE X (.Call (.Name x p) [] [⟨some g, e, kpos⟩, ⟨some f, e2, kpos2⟩] pos) (fun σ H Q => te σ H fun u H1 => te2 σ H1 fun v H2 => wE2 (ga X.K x) f g Q [v, u] H2) := by
  obtain ⟨fI, fd, iC, tI, F1, b1, bk⟩ := T.mkr
  refine ⟨fun pins s σ H Q I h => ?_⟩
  refine wpAny_Call_Name_kw (ld_glob I hg T.gl ?_ hdb)
  refine PySem.W.callWith_KW0 (h₀ := X.base) I.ok.mod.kin T.e.ox.kC hall ?_ hpl
  refine thn ((pk_cons he (pk_cons he2 pk_nil)).run pos pins s σ H (fun zs H2 => match zs with
    | [u, v] => wE2 (ga X.K x) f g Q [v, u] H2
    | _ => False) I h) fun ws s2 ⟨zs, H2, I2, rz, q2⟩ => ⟨I2.kIn, ?_⟩
  rw [hks]
  cases rz with
  | nil => exact q2.elim
  | cons r1 rz => cases rz with
    | nil => exact q2.elim
    | cons r2 rz => cases rz with
      | cons r3 rz => exact q2.elim
      | nil =>
        obtain ⟨v, u, e, q⟩ := wE2_of q2
        cases e
        exact run_err T.e.ox iC tI F1 hr (fun s' a X' => bk s' _ _ _) hc I2 (.cons r2 (.cons r1 .nil)) (Nat.zero_le _) (fun a ha => tE2_to q a ha)
end
end EI
set_option Elab.async false
set_option linter.all false
set_option maxRecDepth 100000
set_option maxHeartbeats 1000000
/-! What the head's facts say of the row: errors, Words, Lot, the defs. -/
namespace K7
open PySem PySem.Spec PyProof.Rows L2 RV EV He EF EI
abbrev gW (K : PySem.W.Frag) : Addr := ga K "Words"
abbrev gO (K : PySem.W.Frag) : Addr := ga K "Lot"
abbrev gNu (K : PySem.W.Frag) : Addr := ga K "Number"
abbrev gRe (K : PySem.W.Frag) : Addr := ga K "Release"
abbrev gNo (K : PySem.W.Frag) : Addr := ga K "Note"
abbrev gT (K : PySem.W.Frag) : Addr := ga K "BadText"
structure KF (P : Program) (w : World) (K : PySem.W.Frag) (mg : Str → Option Value) (base : Heap) : Prop where
  fr : ∀ x ∈ freesN, mg x = none
  ek : ∀ q ∈ errsN, ErrK K q.1 q.2
  gl : ∀ q ∈ errsN, mg q.1 = some (.ref (ga K q.1))
  bf : Cl1 P w K mg base "BadFix" "value" bT
  bl : Cl1 P w K mg base "BadLot" "part" bT
  bnu : Cl1 P w K mg base "BadNumber" "value" bT
  bw : Cl1 P w K mg base "BadWay" "value" bT
  un : Cl1 P w K mg base "Unlike" "part" bM
  tx : Cl2 P w K mg base "BadText" "line" "word" bT
  tm : Cl2 P w K mg base "TooMany" "what" "most" bM
  tops : ∀ q ∈ topsN, ∃ fd, FnP K q.1 (top q.2) (ga K q.1) fd ∧ mg q.1 = some (.ref (ga K q.1))
  gw : mg "Words" = some (.ref (gW K))
  go : mg "Lot" = some (.ref (gO K))
  cl : Cls K (gW K)
  clo : Cls K (gO K)
  mkr : Mk K (gW K) (ma K (gW K) "__init__")
  mko : Mk K (gO K) (ma K (gO K) "__init__")
  noP : NoAttr K (gW K) "parts"
  noL : NoAttr K (gW K) "line"
  noT : NoAttr K (gW K) "taken"
  noF : NoAttr K (gO K) "fixes"
  meth : ∀ q ∈ methN, Meth K (gW K) q.1 (ma K (gW K) q.1) ∧ ∃ fd, FunD K q.1 ("Words." ++ q.1) (defArgs (wSt q.2)) (defBody (wSt q.2)) (defScope (wSt q.2)) [] [] (ma K (gW K) q.1) fd
  lot : ∀ q ∈ lotN, Meth K (gO K) q.1 (ma K (gO K) q.1) ∧ ∃ fd, FunD K q.1 ("Lot." ++ q.1) (defArgs (lSt q.2)) (defBody (lSt q.2)) (defScope (lSt q.2)) [] [] (ma K (gO K) q.1) fd
  ini : ∃ fd, FunD K "__init__" "Words.__init__" (defArgs (wSt 0)) (defBody (wSt 0)) (defScope (wSt 0)) [.int 0] [] (ma K (gW K) "__init__") fd
  gk : ∀ q ∈ mkN, mg q.1 = some (.ref (ga K q.1)) ∧ Cls K (ga K q.1) ∧ Mk K (ga K q.1) (ma K (ga K q.1) "__init__")
  ik : ∀ q ∈ mkN, ∃ fd, FunD K "__init__" (q.1 ++ ".__init__") (defArgs (inClass (top q.2) 0)) (defBody (inClass (top q.2) 0)) (defScope (inClass (top q.2) 0)) [] [] (ma K (ga K q.1) "__init__") fd
  noLi : NoAttr K (gNu K) "line"
  noAt : NoAttr K (gNu K) "at"
  noNu : NoAttr K (gRe K) "number"
  noLo : NoAttr K (gRe K) "lot"
  noGa : NoAttr K (gNo K) "gained"
  noLs : NoAttr K (gNo K) "lost"
  iL : ∃ t, mg "LINES" = some (.int 6 t)
  iR : ∃ t, mg "RELEASES" = some (.int 60 t)
  note : ∀ q ∈ noteN, Meth K (gNo K) q.1 (ma K (gNo K) q.1) ∧ ∃ fd, FunD K q.1 ("Note." ++ q.1) (defArgs (nSt q.2)) (defBody (nSt q.2)) (defScope (nSt q.2)) [] [] (ma K (gNo K) q.1) fd
  relb : relB K = true
  tn : (tabN.map fun p => (cT K p).2).Nodup
  nb : BMeth K (gW K) "is_next" (ma K (gW K) "is_next")
  xE : ∀ q ∈ errsN, PySem.W.exmOne K (.ref (ga K q.1)) (.ref (ga K "EditionError")) = some true
  l1 : lotB1 K (gO K) = true
  l2 : lotB2 K (gO K) = true
  l3 : lotB3 K (gO K) = true
  l4 : lotB4 K (gO K) = true
  l5 : lotB5 K (gO K) = true
  ob : objB K = true
  fo : ∃ fd, FunD K "of" "Lot.of" (defArgs (lSt 2)) (defBody (lSt 2)) (defScope (lSt 2)) [] [] (He5.wf K (gO K) "staticmethod" "of") fd
  frn : ∃ fd, FunD K "read" "Note.read" (defArgs (nSt 1)) (defBody (nSt 1)) (defScope (nSt 1)) [] [] (He5.wf K (gNo K) "staticmethod" "read") fd
  fr_ : ∃ fd, FunD K "read" "Lot.read" (defArgs (lSt 3)) (defBody (lSt 3)) (defScope (lSt 3)) [] [] (He5.wf K (gO K) "classmethod" "read") fd
theorem b_fix : Body1 (inClass (top 9) 0) "value" := ⟨⟨_, _, _, _, rfl⟩, rfl, fun _ _ _ _ _ _ _ _ _ => rfl, fun _ _ _ _ _ _ _ _ _ => rfl, by decide, by decide, by decide⟩
theorem b_lot : Body1 (inClass (top 10) 0) "part" := ⟨⟨_, _, _, _, rfl⟩, rfl, fun _ _ _ _ _ _ _ _ _ => rfl, fun _ _ _ _ _ _ _ _ _ => rfl, by decide, by decide, by decide⟩
theorem b_num : Body1 (inClass (top 11) 0) "value" := ⟨⟨_, _, _, _, rfl⟩, rfl, fun _ _ _ _ _ _ _ _ _ => rfl, fun _ _ _ _ _ _ _ _ _ => rfl, by decide, by decide, by decide⟩
theorem b_way : Body1 (inClass (top 13) 0) "value" := ⟨⟨_, _, _, _, rfl⟩, rfl, fun _ _ _ _ _ _ _ _ _ => rfl, fun _ _ _ _ _ _ _ _ _ => rfl, by decide, by decide, by decide⟩
theorem b_unl : Body1 (inClass (top 15) 0) "part" := ⟨⟨_, _, _, _, rfl⟩, rfl, fun _ _ _ _ _ _ _ _ _ => rfl, fun _ _ _ _ _ _ _ _ _ => rfl, by decide, by decide, by decide⟩
theorem b_text : Body2 (inClass (top 12) 0) "line" "word" :=
  ⟨⟨_, _, _, _, _, _, _, _, rfl⟩, ⟨rfl, rfl, rfl, by decide +kernel, rfl, by decide +kernel, by decide +kernel⟩, .inl rfl, .inl rfl, .inl rfl, fun _ _ _ _ _ _ _ _ _ _ => rfl, fun _ _ _ _ _ _ _ _ _ _ => rfl, by decide, by decide, by decide, by decide⟩
theorem b_many : Body2 (inClass (top 14) 0) "what" "most" :=
  ⟨⟨_, _, _, _, _, _, _, _, rfl⟩, ⟨rfl, rfl, rfl, by decide +kernel, rfl, by decide +kernel, by decide +kernel⟩, .inl rfl, .inl rfl, .inl rfl, fun _ _ _ _ _ _ _ _ _ _ => rfl, fun _ _ _ _ _ _ _ _ _ _ => rfl, by decide, by decide, by decide, by decide⟩
theorem kf {P : Program} {w : World} {K : PySem.W.Frag} {h h' : Heap} {mg : Str → Option Value} (X : K.In h) (G : h.Ns mainGlobals mg) (cy : SaysY w h' K) (base : Heap) : KF P w K mg base := by
  have c := cy.x
  have z : exS K = true := c.more
  obtain ⟨zl, z⟩ := ba z
  obtain ⟨zl, zda⟩ := ba zl
  obtain ⟨zl, znd⟩ := ba zl
  obtain ⟨zl1, zl⟩ := ba zl
  obtain ⟨zl2, zl⟩ := ba zl
  obtain ⟨zl3, zl⟩ := ba zl
  obtain ⟨zl4, zl5⟩ := ba zl
  have dA : ∀ {d : He5.DefA}, d ∈ dAs → ∃ fd, FunD K d.name d.qual d.params d.body d.scope (d.dvs K) (d.kws K) (d.at_ K) fd := fun {d} hd => by
    refine d.funD ?_ (List.all_eq_true.mp zda d hd)
    have e := cy.y
    exact List.map_inj_left.mp e d hd
  obtain ⟨z, zx⟩ := ba z
  obtain ⟨z, zin⟩ := ba z
  obtain ⟨z, zer⟩ := ba z
  obtain ⟨z, zob⟩ := ba z
  obtain ⟨ztn, zbm⟩ := ba z
  obtain ⟨bm1, bm⟩ := ba zbm
  obtain ⟨bm2, bm3⟩ := ba bm
  have S : SaysD fas fns K := c.t.d
  have fact : ∀ {f : Fa}, f ∈ fas → f.ok K = true := fun h => S.facts h
  have m1 : ∀ {f : Fa}, f ∈ (freesN.map Fa.free) → f ∈ fas := fun h => List.mem_append_left _ (List.mem_append_left _ (List.mem_append_left _ (List.mem_append_left _ (List.mem_append_left _ (List.mem_append_left _ (List.mem_append_left _ (List.mem_append_left _ h)))))))
  have m2 : ∀ {f : Fa}, f ∈ (topsN.map fun q => Fa.glo q.1) → f ∈ fas := fun h => List.mem_append_left _ (List.mem_append_left _ (List.mem_append_left _ (List.mem_append_left _ (List.mem_append_left _ (List.mem_append_left _ (List.mem_append_left _ (List.mem_append_right _ h)))))))
  have m3 : ∀ {f : Fa}, f ∈ (methN.map fun q => Fa.meth "Words" q.1) → f ∈ fas := fun h => List.mem_append_left _ (List.mem_append_left _ (List.mem_append_left _ (List.mem_append_left _ (List.mem_append_left _ (List.mem_append_left _ (List.mem_append_right _ h))))))
  have m5 : ∀ {f : Fa}, f ∈ (lotN.map fun q => Fa.meth "Lot" q.1) → f ∈ fas := fun h => List.mem_append_left _ (List.mem_append_left _ (List.mem_append_left _ (List.mem_append_left _ (List.mem_append_left _ (List.mem_append_right _ h)))))
  have m6 : ∀ {f : Fa}, f ∈ (noteN.map fun q => Fa.meth "Note" q.1) → f ∈ fas := fun h => List.mem_append_left _ (List.mem_append_left _ (List.mem_append_left _ (List.mem_append_left _ (List.mem_append_right _ h))))
  have m7 : ∀ {f : Fa}, f ∈ (mkN.map fun q => Fa.glo q.1) → f ∈ fas := fun h => List.mem_append_left _ (List.mem_append_left _ (List.mem_append_left _ (List.mem_append_right _ h)))
  have m8 : ∀ {f : Fa}, f ∈ (mkN.map fun q => Fa.cls q.1) → f ∈ fas := fun h => List.mem_append_left _ (List.mem_append_left _ (List.mem_append_right _ h))
  have m9 : ∀ {f : Fa}, f ∈ (mkN.map fun q => Fa.mkr q.1) → f ∈ fas := fun h => List.mem_append_left _ (List.mem_append_right _ h)
  have m4 : ∀ {f : Fa}, f ∈ ([.glo "Words", .cls "Words", .mkr "Words", .noat "Words" "parts", .noat "Words" "line", .noat "Words" "taken", .glo "Lot", .cls "Lot", .mkr "Lot", .noat "Lot" "fixes", .noat "Number" "line", .noat "Number" "at", .noat "Release" "number", .noat "Release" "lot", .noat "Note" "gained", .noat "Note" "lost", .int "LINES" 6, .int "RELEASES" 60] : List Fa) → f ∈ fas := fun h => List.mem_append_right _ h
  have hek : ∀ q ∈ errsN, ErrK K q.1 q.2 := fun q hq => errB_ok (List.all_eq_true.mp zer q hq) zob
  have hgl : ∀ q ∈ errsN, mg q.1 = some (.ref (ga K q.1)) := fun q hq => PySem.W.mg_of X G (hek q hq).nm
  have d1 : ∀ {d : DefD}, d ∈ (topsN.map dTop) → d ∈ fns := fun h => List.mem_append_left _ (List.mem_append_left _ (List.mem_append_left _ (List.mem_append_left _ (List.mem_append_left _ (List.mem_append_left _ h)))))
  have d2 : ∀ {d : DefD}, d ∈ (methN.map dMeth) → d ∈ fns := fun h => List.mem_append_left _ (List.mem_append_left _ (List.mem_append_left _ (List.mem_append_left _ (List.mem_append_left _ (List.mem_append_right _ h)))))
  have d3 : ∀ {d : DefD}, d ∈ (lotN.map dLot) → d ∈ fns := fun h => List.mem_append_left _ (List.mem_append_left _ (List.mem_append_left _ (List.mem_append_left _ (List.mem_append_right _ h))))
  have d6 : ∀ {d : DefD}, d ∈ (noteN.map dNote) → d ∈ fns := fun h => List.mem_append_left _ (List.mem_append_left _ (List.mem_append_left _ (List.mem_append_right _ h)))
  have d7 : ∀ {d : DefD}, d ∈ (mkN.map dMk) → d ∈ fns := fun h => List.mem_append_left _ (List.mem_append_left _ (List.mem_append_right _ h))
  have d4 : ∀ {d : DefD}, d ∈ [dInitW] → d ∈ fns := fun h => List.mem_append_left _ (List.mem_append_right _ h)
  have d5 : ∀ {d : DefD}, d ∈ (iniN.map fun q => dInitE q.1 q.2.1) → d ∈ fns := fun h => List.mem_append_right _ h
  have one : ∀ q ∈ iniN, PySem.W.findIn K (.ref (ga K q.1)) "__init__" = some (some (.ref (ma K (ga K q.1) "__init__"))) ∧ PySem.W.typeIn K (.ref (ma K (ga K q.1) "__init__")) = some (.type "function") ∧ (∀ f ∈ q.2.2, PySem.W.findIn K (.ref (ga K q.1)) f = some none) ∧
      ∃ fd, FunD K "__init__" (q.1 ++ ".__init__") (defArgs (inClass (top q.2.1) 0)) (defBody (inClass (top q.2.1) 0)) (defScope (inClass (top q.2.1) 0)) [] [] (ma K (ga K q.1) "__init__") fd := fun q hq => by
    obtain ⟨i1, i⟩ := ba (List.all_eq_true.mp zin q hq)
    obtain ⟨i2, i3⟩ := ba i
    exact ⟨eqO_ok i1, of_decide_eq_true i2, fun f hf => eqO_ok (List.all_eq_true.mp i3 f hf), S.defs (d5 (List.mem_map_of_mem (f := fun q : Str × Nat × List Str => dInitE q.1 q.2.1) hq))⟩
  refine {
    fr := fun x hx => free_ok X G (fact (m1 (List.mem_map_of_mem hx))), ek := hek, gl := hgl, bf := ?_, bl := ?_, bnu := ?_, bw := ?_, un := ?_, tx := ?_, tm := ?_, tops := fun q hq => ?_,
    gw := glo_ok X G (fact (m4 (by simp))), go := glo_ok X G (fact (m4 (by simp))), cl := cls_ok (fact (m4 (by simp))), clo := cls_ok (fact (m4 (by simp))), mkr := mkr_ok (fact (m4 (by simp))), mko := mkr_ok (fact (m4 (by simp))),
    noP := noat_ok (fact (m4 (by simp))), noL := noat_ok (fact (m4 (by simp))), noT := noat_ok (fact (m4 (by simp))), noF := noat_ok (fact (m4 (by simp))), meth := fun q hq => ⟨?_, ?_⟩, lot := fun q hq => ⟨?_, ?_⟩, ini := ?_,
    gk := fun q hq => ⟨glo_ok X G (fact (m7 (List.mem_map_of_mem (f := fun q : Str × Nat => Fa.glo q.1) hq))), cls_ok (fact (m8 (List.mem_map_of_mem (f := fun q : Str × Nat => Fa.cls q.1) hq))), mkr_ok (fact (m9 (List.mem_map_of_mem (f := fun q : Str × Nat => Fa.mkr q.1) hq)))⟩,
    ik := fun q hq => S.defs (d7 (List.mem_map_of_mem (f := dMk) hq)),
    noLi := noat_ok (fact (m4 (by simp))), noAt := noat_ok (fact (m4 (by simp))), noNu := noat_ok (fact (m4 (by simp))), noLo := noat_ok (fact (m4 (by simp))), noGa := noat_ok (fact (m4 (by simp))), noLs := noat_ok (fact (m4 (by simp))),
    iL := ?_, iR := ?_, note := fun q hq => ⟨?_, ?_⟩, relb := znd,
    tn := of_decide_eq_true ztn, nb := ⟨?_, eqO_ok bm1, of_decide_eq_true bm2, by decide +kernel, bm3⟩, xE := fun q hq => of_decide_eq_true (List.all_eq_true.mp zx q hq),
    l1 := zl1, l2 := zl2, l3 := zl3, l4 := zl4, l5 := zl5, ob := zob, fo := dA (d := dAs[0]) (by simp [dAs]), frn := dA (d := dAs[2]) (by simp [dAs]), fr_ := dA (d := dAs[1]) (by simp [dAs]) }
  · obtain ⟨i1, i2, i3, fd, F⟩ := one ("BadFix", 9, ["value"]) (by decide)
    have E := hek ("BadFix", bT) (by decide)
    exact ⟨E, ⟨_, fd, i1, i2, ok_init1 F b_fix E.ox (i3 "value" (by decide)), pos1 F b_fix, kw1 F b_fix⟩, i3 "value" (by decide), hgl ("BadFix", bT) (by decide)⟩
  · obtain ⟨i1, i2, i3, fd, F⟩ := one ("BadLot", 10, ["part"]) (by decide)
    have E := hek ("BadLot", bT) (by decide)
    exact ⟨E, ⟨_, fd, i1, i2, ok_init1 F b_lot E.ox (i3 "part" (by decide)), pos1 F b_lot, kw1 F b_lot⟩, i3 "part" (by decide), hgl ("BadLot", bT) (by decide)⟩
  · obtain ⟨i1, i2, i3, fd, F⟩ := one ("BadNumber", 11, ["value"]) (by decide)
    have E := hek ("BadNumber", bT) (by decide)
    exact ⟨E, ⟨_, fd, i1, i2, ok_init1 F b_num E.ox (i3 "value" (by decide)), pos1 F b_num, kw1 F b_num⟩, i3 "value" (by decide), hgl ("BadNumber", bT) (by decide)⟩
  · obtain ⟨i1, i2, i3, fd, F⟩ := one ("BadWay", 13, ["value"]) (by decide)
    have E := hek ("BadWay", bT) (by decide)
    exact ⟨E, ⟨_, fd, i1, i2, ok_init1 F b_way E.ox (i3 "value" (by decide)), pos1 F b_way, kw1 F b_way⟩, i3 "value" (by decide), hgl ("BadWay", bT) (by decide)⟩
  · obtain ⟨i1, i2, i3, fd, F⟩ := one ("Unlike", 15, ["part"]) (by decide)
    have E := hek ("Unlike", bM) (by decide)
    exact ⟨E, ⟨_, fd, i1, i2, ok_init1 F b_unl E.ox (i3 "part" (by decide)), pos1 F b_unl, kw1 F b_unl⟩, i3 "part" (by decide), hgl ("Unlike", bM) (by decide)⟩
  · obtain ⟨i1, i2, i3, fd, F⟩ := one ("BadText", 12, ["line", "word"]) (by decide)
    have E := hek ("BadText", bT) (by decide)
    exact ⟨E, ⟨_, fd, i1, i2, ok_init2 F b_text E.ox (i3 "line" (by decide)) (i3 "word" (by decide)), pos2 F b_text, kw2 F b_text⟩, i3 "line" (by decide), i3 "word" (by decide), hgl ("BadText", bT) (by decide)⟩
  · obtain ⟨i1, i2, i3, fd, F⟩ := one ("TooMany", 14, ["what", "most"]) (by decide)
    have E := hek ("TooMany", bM) (by decide)
    exact ⟨E, ⟨_, fd, i1, i2, ok_init2 F b_many E.ox (i3 "what" (by decide)) (i3 "most" (by decide)), pos2 F b_many, kw2 F b_many⟩, i3 "what" (by decide), i3 "most" (by decide), hgl ("TooMany", bM) (by decide)⟩
  · obtain ⟨fd, F⟩ := S.defs (d1 (List.mem_map_of_mem (f := dTop) hq))
    exact ⟨fd, F, glo_ok X G (fact (m2 (List.mem_map_of_mem (f := fun q : Str × Nat => Fa.glo q.1) hq)))⟩
  · exact meth_ok (fact (m3 (List.mem_map_of_mem (f := fun q : Str × Nat => Fa.meth "Words" q.1) hq)))
  · exact S.defs (d2 (List.mem_map_of_mem (f := dMeth) hq))
  · exact meth_ok (fact (m5 (List.mem_map_of_mem (f := fun q : Str × Nat => Fa.meth "Lot" q.1) hq)))
  · exact S.defs (d3 (List.mem_map_of_mem (f := dLot) hq))
  · exact S.defs (d4 (d := dInitW) (by simp))
  · exact int_ok X G (fact (m4 (by simp)))
  · exact int_ok X G (fact (m4 (by simp)))
  · exact meth_ok (fact (m6 (List.mem_map_of_mem (f := fun q : Str × Nat => Fa.meth "Note" q.1) hq)))
  · exact S.defs (d6 (List.mem_map_of_mem (f := dNote) hq))
  · exact meth_ok (fact (m3 (List.mem_map_of_mem (f := fun q : Str × Nat => Fa.meth "Words" q.1) (a := (("is_next", 5) : Str × Nat)) (by decide))))
/-! ### raise BadText(line, word) -/
theorem mk3_eq {H : Hp} {a d C : Addr} {fs : List (Str × V)} (na : H a = none) (h : d ≠ a) : upd (L2.del (mkE H a d C fs) a) d (.xd fs) = upd H d (.xd fs) := by
  funext b
  by_cases e : b = d
  · rw [e, upd_same, upd_same]
  · rw [upd_ne e, upd_ne e]
    by_cases e2 : b = a
    · rw [e2, del_same, na]
    · rw [del_ne e2]
      unfold mkE
      rw [upd_ne e2, upd_ne e]
theorem mkb {H : Hp} {C : Addr} {f g : Str} {v u : V} {Q : XK} (q : ∀ d, H d = none → Q (.ref C) (some d) (upd H d (.xd [(g, u), (f, v)]))) :
    [v, u].length ≤ 1000 ∧ ∀ a, H a = none → spE2 C f g (.ref a :: ([v, u] ++ [])) (upd H a (exo a C none))
      (fun v H2 => v = .non ∧ ∃ (d : Addr) (fs : List (Str × V)), H2 a = some (exo a C (some d)) ∧ H2 d = some (exd d fs) ∧ H d = none ∧ Q (.ref C) (some d) (upd (L2.del H2 a) d (.xd fs))) (fun _ _ _ => False) := by
  refine ⟨by show 2 ≤ 1000; decide, fun a na => ⟨a, v, u, rfl, upd_same, fun d hd ne => ⟨rfl, d, [(g, u), (f, v)], ?_⟩⟩⟩
  rw [upd_ne ne] at hd
  rw [mk2_eq ne, mk3_eq na ne]
  exact ⟨(mkE_at ne).ob, (mkE_at ne).dc, hd, q d hd⟩
def tBad (K : PySem.W.Frag) (te te2 : TE) (W : WX) : TS := fun _ σ H => tMkO (gT K) (spE2 (gT K) "line" "word") [] (tCons te (tCons te2 tNil)) σ H fun cls d H' => W cls d σ H'
theorem ps_bad {X : Cx} {W : WX} {e e2 : Expr} {te te2 : TE} {p pos pos2 : Pos} (T : KF X.prog X.w X.K X.mg X.base) (hr : Room 2 X.A) (hc : X.calm = true) (tk : Takes X W) (hg : Gl X "BadText") (he : PE X e te) (he2 : PE X e2 te2)
    (hs : starEach [e, e2] X.env = (false, eval e X.env) :: starEach [e2] X.env := by rfl) (hs2 : starEach [e2] X.env = (false, eval e2 X.env) :: starEach [] X.env := by rfl)
    (hpl : (backTo pos (starEach [e2] X.env)).any (·.1) = false := by rfl) : PS X (.Raise (some (.Call (.Name "BadText" p) [e, e2] [] pos)) none pos2) (tBad X.K te te2 W) := by
  obtain ⟨fI, fd, iC, tI, F1, b1, _⟩ := T.tx.mkr
  exact ps_raise hc tk (pmk_oex (dvs := []) T.tx.e.ox iC tI F1 hr b1 .nil (fun _ _ _ _ _ _ _ z => z.elim) hg T.tx.gl (pa_cons he (pa_cons he2 pa_nil (hs := hs2)) (hs := hs)) (by decide) hs hpl)
end K7
set_option Elab.async false
set_option linter.all false
set_option maxRecDepth 100000
set_option maxHeartbeats 1000000
/-! raise X(v), raise X(v, u): an own error with its fields. -/
namespace K7
open PySem PySem.Spec PyProof.Rows L2 RV EV He EF EI
/-- what X(v) tells to those that catch it -/
def Bad1 (C : Addr) (f : Str) (H : Hp) (E : XK) (v : V) : Prop := ∀ d, H d = none → E (.ref C) (some d) (upd H d (.xd [(f, v)]))
def Bad2 (C : Addr) (f g : Str) (H : Hp) (E : XK) (v u : V) : Prop := ∀ d, H d = none → E (.ref C) (some d) (upd H d (.xd [(g, u), (f, v)]))
theorem mkb1 {H : Hp} {C : Addr} {f : Str} {v : V} {Q : XK} (q : Bad1 C f H Q v) : [v].length ≤ 1000 ∧ ∀ a, H a = none → spE1 C f (.ref a :: ([v] ++ [])) (upd H a (exo a C none))
      (fun z H2 => z = .non ∧ ∃ (d : Addr) (fs : List (Str × V)), H2 a = some (exo a C (some d)) ∧ H2 d = some (exd d fs) ∧ H d = none ∧ Q (.ref C) (some d) (upd (L2.del H2 a) d (.xd fs))) (fun _ _ _ => False) := by
  refine ⟨by show 1 ≤ 1000; decide, fun a na => ⟨a, v, rfl, upd_same, fun d hd ne => ⟨rfl, d, [(f, v)], ?_⟩⟩⟩
  rw [upd_ne ne] at hd
  rw [mk1_eq ne, mk3_eq na ne]
  exact ⟨(mkE_at ne).ob, (mkE_at ne).dc, hd, q d hd⟩
theorem mkb2 {H : Hp} {C : Addr} {f g : Str} {v u : V} {Q : XK} (q : Bad2 C f g H Q v u) : [v, u].length ≤ 1000 ∧ ∀ a, H a = none → spE2 C f g (.ref a :: ([v, u] ++ [])) (upd H a (exo a C none))
      (fun v H2 => v = .non ∧ ∃ (d : Addr) (fs : List (Str × V)), H2 a = some (exo a C (some d)) ∧ H2 d = some (exd d fs) ∧ H d = none ∧ Q (.ref C) (some d) (upd (L2.del H2 a) d (.xd fs))) (fun _ _ _ => False) := mkb q
def tRaise1 (C : Addr) (f : Str) (te : TE) (W : WX) : TS := fun _ σ H => tMkO C (spE1 C f) [] (tCons te tNil) σ H fun cls d H' => W cls d σ H'
def tRaise2 (C : Addr) (f g : Str) (te te2 : TE) (W : WX) : TS := fun _ σ H => tMkO C (spE2 C f g) [] (tCons te (tCons te2 tNil)) σ H fun cls d H' => W cls d σ H'
section
variable {X : Cx} {W : WX} {e e2 : Expr} {te te2 : TE} {p pos pos2 : Pos} {x f g : Str} {bs : List Str}
theorem ps_raise1 (T : Cl1 X.prog X.w X.K X.mg X.base x f bs) (hr : Room 2 X.A) (hc : X.calm = true) (tk : Takes X W) (hg : Gl X x) (he : PE X e te)
    (hs : starEach [e] X.env = (false, eval e X.env) :: starEach [] X.env := by rfl) (hpl : (backTo pos (starEach [] X.env)).any (·.1) = false := by rfl) (hdb : (x == ("__debug__" : Str)) = false := by decide) :
    PS X (.Raise (some (.Call (.Name x p) [e] [] pos)) none pos2) (tRaise1 (ga X.K x) f te W) := by
  obtain ⟨fI, fd, iC, tI, F1, b1, _⟩ := T.mkr
  exact ps_raise hc tk (pmk_oex (dvs := []) T.e.ox iC tI F1 hr b1 .nil (fun _ _ _ _ _ _ _ z => z.elim) hg T.gl (pa_cons he pa_nil (hs := hs)) hdb hs hpl)
theorem ps_raise2 (T : Cl2 X.prog X.w X.K X.mg X.base x f g bs) (hr : Room 2 X.A) (hc : X.calm = true) (tk : Takes X W) (hg : Gl X x) (he : PE X e te) (he2 : PE X e2 te2)
    (hs : starEach [e, e2] X.env = (false, eval e X.env) :: starEach [e2] X.env := by rfl) (hs2 : starEach [e2] X.env = (false, eval e2 X.env) :: starEach [] X.env := by rfl)
    (hpl : (backTo pos (starEach [e2] X.env)).any (·.1) = false := by rfl) (hdb : (x == ("__debug__" : Str)) = false := by decide) : PS X (.Raise (some (.Call (.Name x p) [e, e2] [] pos)) none pos2) (tRaise2 (ga X.K x) f g te te2 W) := by
  obtain ⟨fI, fd, iC, tI, F1, b1, _⟩ := T.mkr
  exact ps_raise hc tk (pmk_oex (dvs := []) T.e.ox iC tI F1 hr b1 .nil (fun _ _ _ _ _ _ _ z => z.elim) hg T.gl (pa_cons he (pa_cons he2 pa_nil (hs := hs2)) (hs := hs)) hdb hs hpl)
end
end K7
set_option Elab.async false
set_option linter.all false
set_option maxRecDepth 100000
set_option maxHeartbeats 1000000
namespace K7
open PySem PySem.Spec PyProof.Rows L2 RV EV He EF EI
/-! The class Words: is_next, step, refuse, end. -/
/-- a Words at p: its parts at tp, its line, how many were taken -/
structure WO (K : PySem.W.Frag) (H : Hp) (p dx tp : Addr) (ws : List Str) (ln : Int) (t : Nat) : Prop where
  ob : H p = some (.ins (gW K) dx [("parts", .ref tp), ("line", .int ln), ("taken", .int t)])
  ps : H tp = some (.tup (ws.map V.str))
  le : t ≤ ws.length
  lz : ws.length ≤ 1000
def Same2 (H H' : Hp) (p : Addr) : Prop := ∀ c o, c ≠ p → H c = some o → H' c = some o
theorem WO.same {K : PySem.W.Frag} {H H' : Hp} {p dx tp : Addr} {ws : List Str} {ln : Int} {t : Nat} (O : WO K H p dx tp ws ln t) (s : Same H H') : WO K H' p dx tp ws ln t := ⟨s _ _ O.ob, s _ _ O.ps, O.le, O.lz⟩
theorem WO.ne {K : PySem.W.Frag} {H : Hp} {p dx tp : Addr} {ws : List Str} {ln : Int} {t : Nat} (O : WO K H p dx tp ws ln t) : tp ≠ p := ne_of O.ps O.ob (fun z => nomatch z)
def nextB (ws : List Str) (t : Nat) (ss : List Str) : Bool := decide (t < ws.length) && (ss.isEmpty || decide (ws.getD t "" ∈ ss))
theorem getD_at {ws : List Str} {t : Nat} (h : t < ws.length) : ws[t]? = some (ws.getD t "") := by
  rw [List.getD_eq_getElem?_getD, List.getElem?_eq_getElem h]
  rfl
theorem inV_str (x : Str) (ss : List Str) : inV (.str x) (ss.map V.str) = decide (x ∈ ss) := by
  unfold inV
  induction ss with
  | nil => rfl
  | cons s ss ih =>
    rw [List.map_cons, List.any_cons, ih]
    have e : eqV (.str s) (.str x) = decide (s = x) := by
      unfold eqV
      rfl
    rw [e]
    by_cases h : s = x
    · simp [h]
    · have h2 : x ≠ s := fun z => h z.symm
      simp [h, h2]
theorem flat_strs (ss : List Str) : (ss.map V.str).all flatV = true := by
  rw [List.all_eq_true]
  intro v hv
  obtain ⟨s, _, rfl⟩ := List.mem_map.mp hv
  rfl
/-- o.m(), by a positional promise -/
theorem pe_meth0R {X : Cx} {CX : CXT} {k : Nat} {C f : Addr} {m : Str} {sp : Sp} {E : XK} {o : Expr} {ta : TE} {apos pos : Pos} {pl : Sem Bool} (he : PE X o ta) (c : Cls X.K C) (hm : Meth X.K C m f)
    (F : FnR X.prog X.w X.K X.mg X.base CX k f sp) (hr : Room k X.A) (hx : Passes CX X E)
    (ht : eval (.Call (.Attribute o m apos) [] [] pos) X.env = (do
      let u ← eval o X.env
      standAt apos.atName
      let (g, one) ← holding [u] (getMethod u m pl)
      callWith pos g one (backTo pos (starEach [] X.env)) (backToKw pos (keywordEach [] X.env))) := by rfl) :
    PE X (.Call (.Attribute o m apos) [] [] pos) (tMethR C m sp E ta tNil) := by
  refine ⟨fun pins s σ H Q I h => PySem.W.methodCall_KW (pl := pl) (thn (he.run pins s σ H _ I h) fun v s1 hv => ?_) ht⟩
  obtain ⟨x, H1, I1, rx, a, dx, fs, rfl, ea, l, q⟩ := hv
  obtain rfl : v = Value.ref a := rx
  exact getmeth_ok I1 ea c hm l (PySem.W.callWith_K0 (first := [.ref a]) I1.kIn hm.kp (wpAny_call (run_fnR (us := [.ref a]) (vs := [.ref a]) F hr hx I1 (.cons rfl .nil) q)))
def spNext0 (K : PySem.W.Frag) : Sp := fun vs H Q _ => ∃ p dx tp ws ln t T ss, vs = [.ref p, .ref T] ∧ WO K H p dx tp ws ln t ∧ H T = some (.tup (ss.map V.str)) ∧ ss.length ≤ 5 ∧ Q (.bl (nextB ws t ss)) H
def spStar (sp : Sp) : Sp := fun vs H Q E => ∃ ws rest, vs = ws ++ rest ∧ ws.length = (["self"] : List Str).length ∧ rest.length ≤ sizeLine ∧ ∀ p, H p = none → sp (ws ++ [V.ref p]) (upd H p (.tup rest)) Q E
section
variable {P : Program} {w : World} {K : PySem.W.Frag} {mg : Str → Option Value} {base : Heap}
abbrev mAd (K : PySem.W.Frag) (m : Str) : Addr := ma K (gW K) m
abbrev scNx_N : List Str := ["self", "some"]
theorem scNx : FnScope scNx_N ["self", "some"] (defScope (wSt 5)) := ⟨rfl, rfl, rfl, by decide +kernel, rfl, by decide +kernel, by decide +kernel⟩
theorem ok_next (T : KF P w K mg base) : FnR P w K mg base CX0 1 (mAd K "is_next") (spStar (spNext0 K)) := by
  obtain ⟨_, fd, F⟩ := T.meth ("is_next", 5) (by decide)
  obtain ⟨oc, od, dV, kV, doc, pm, an, cdv, ct, osl, rfl, lk, hcd, hD, hK⟩ := F.ex
  rcases hD with ⟨_, rfl⟩ | ⟨e, _⟩
  case inr => exact absurd rfl e
  refine StX.fn_star (ps := ["self"]) (pv := "some") lk hcd scNx StX.cxUp_none (StX.bind_star1 (B := fun us => bindArgs _ ⟨us, []⟩) (fun a => rfl) fun a r rs => rfl) fun A outer s H vs Q E hr h => ?_
  obtain ⟨p, dx, tp, ws, ln, t, T', ss, rfl, O, hT, hz, k⟩ := h
  refine ⟨_, PSs.nox (pss_cons (ps_if (pt_cmpR op_eq (pe_fld (pv 0) rfl) (pe_callB call_len_seq (by rfl) (T.fr "len" (by decide)) PySem.boot_len (pa_cons (pe_fld (pv 0) rfl) pa_nil)) (nomark _)) (pss_one (ps_ret pe_bl)) pss_nil)
    (pss_one (ps_ret (pe_or (pe_notT (pv 1)) (pe_one (pe_cmpR op_in_seq (pe_ix ix_tup (pe_fld (pv 0) rfl) (pe_fld (pv 0) rfl) (fun _ _ => rfl)) (pv 1) rfl)))))), ?_⟩
  refine ⟨_, rfl, p, _, dx, _, _, rfl, O.ob, T.cl, T.noT, rfl, _, rfl, p, _, dx, _, _, rfl, O.ob, T.cl, T.noP, rfl, tp, _, rfl, .inr (SqT.of O.ps), rfl, _, rfl, ?_⟩
  have e0 : (V.int (t : Int) = V.int ((ws.map V.str).length : Nat)) ↔ t = ws.length := by
    rw [List.length_map]
    constructor
    · intro z
      have := V.int.inj z
      omega
    · rintro rfl; rfl
  unfold nextB at k
  by_cases h0 : t = ws.length
  · refine if_posB (decide_eq_true (e0.mpr h0)) ?_
    rw [decide_eq_false (by omega), Bool.false_and] at k
    exact k
  · have ht : t < ws.length := by have := O.le; omega
    refine if_negB (decide_eq_false fun z => h0 (e0.mp z)) ⟨_, rfl, !(ss.map V.str).isEmpty, ?_, ?_⟩
    · exact .inr (.inl ⟨_, SqT.of hT, rfl⟩)
    · rw [decide_eq_true ht, Bool.true_and] at k
      cases e : ss.isEmpty with
      | true =>
        rw [e, Bool.true_or] at k
        have e2 : (ss.map V.str).isEmpty = true := by simpa using e
        rw [e2]
        exact ⟨_, rfl, if_posB rfl k⟩
      | false =>
        rw [e, Bool.false_or] at k
        have e2 : (ss.map V.str).isEmpty = false := by simpa using e
        rw [e2]
        refine ⟨_, rfl, if_negB rfl ⟨_, rfl, p, _, dx, _, _, rfl, O.ob, T.cl, T.noP, rfl, _, rfl, p, _, dx, _, _, rfl, O.ob, T.cl, T.noT, rfl, tp, _, _, .str (ws.getD t ""), rfl, rfl, SqT.of O.ps, atI_nat ?_, _, rfl, T', _, rfl, .inr (SqT.of hT), rfl, flat_strs ss, ?_⟩⟩
        · rw [List.getElem?_map, getD_at ht]
          rfl
        · show Q (.bl (inV (.str (ws.getD t "")) (ss.map V.str))) H
          rw [inV_str]
          exact k
/-- is_next called with the words ss -/
theorem nxt_of {H : Hp} {Q : VK} {E : XK} {p dx tp : Addr} {ws : List Str} {ln : Int} {t : Nat} (ss : List Str) (O : WO K H p dx tp ws ln t) (hz : ss.length ≤ 5) (k : ∀ H', Same H H' → Q (.bl (nextB ws t ss)) H') :
    spStar (spNext0 K) (.ref p :: ss.map V.str) H Q E := by
  refine ⟨[.ref p], ss.map V.str, rfl, rfl, by rw [List.length_map, sizeLine_eq]; omega, fun T nT => ?_⟩
  have s := same_new (o := .tup (ss.map V.str)) nT
  exact ⟨p, dx, tp, ws, ln, t, T, ss, rfl, O.same s, upd_same, hz, k _ s⟩
/-! step -/
def spStep (K : PySem.W.Frag) : Sp := fun vs H Q _ => ∃ p dx tp ws ln t, vs = [.ref p] ∧ WO K H p dx tp ws ln t ∧ t < ws.length ∧ ∀ H', Same2 H H' p → WO K H' p dx tp ws ln (t + 1) → Q (.str (ws.getD t "")) H'
abbrev scSt_N : List Str := ["self", "word"]
theorem scSt : FnScope scSt_N ["self"] (defScope (wSt 10)) := ⟨rfl, rfl, rfl, by decide +kernel, rfl, by decide +kernel, by decide +kernel⟩
theorem methF (T : KF P w K mg base) {q : Str × Nat} (h : q ∈ methN) : ∃ fd, FunD K q.1 ("Words." ++ q.1) (defArgs (wSt q.2)) (defBody (wSt q.2)) (defScope (wSt q.2)) [] [] (mAd K q.1) fd := (T.meth q h).2
theorem ok_step (T : KF P w K mg base) {fd : FuncData} (F : FunD K "step" "Words.step" (defArgs (wSt 10)) (defBody (wSt 10)) (defScope (wSt 10)) [] [] (mAd K "step") fd) : FnOk P w K mg base CX0 1 (mAd K "step") fd ["self"] (spStep K) := by
  refine F.ok scSt (fun vs H Q E h => ?_) (fun cdv A outer s H vs Q E hr h => ?_)
  · obtain ⟨p, dx, tp, ws, ln, t, rfl, _⟩ := h
    rfl
  · obtain ⟨p, dx, tp, ws, ln, t, rfl, O, ht, k⟩ := h
    refine ⟨_, PSs.nox (pss_cons (ps_set (i := 1) scSt.nd rfl (.inl rfl) (pe_ix ix_tup (pe_fld (pv 0) rfl) (pe_fld (pv 0) rfl) (fun _ _ => rfl))) (pss_cons (ps_fldaug (pv 0) pe_int in_add) (pss_one (ps_ret (pv 1))))), ?_⟩
    refine ⟨_, rfl, p, _, dx, _, _, rfl, O.ob, T.cl, T.noP, rfl, _, rfl, p, _, dx, _, _, rfl, O.ob, T.cl, T.noT, rfl, tp, _, _, .str (ws.getD t ""), rfl, rfl, SqT.of O.ps, atI_nat ?_, ?_⟩
    · rw [List.getElem?_map, getD_at ht]
      rfl
    · have O2 : WO K (upd H p (.ins (gW K) dx [("parts", .ref tp), ("line", .int ln), ("taken", .int ((t : Int) + 1))])) p dx tp ws ln (t + 1) := ⟨by rw [upd_same]; rfl, by rw [upd_ne O.ne]; exact O.ps, ht, O.lz⟩
      refine ⟨_, rfl, p, gW K, dx, _, _, rfl, O.ob, T.cl, T.noT, rfl, _, _, rfl, rfl, _, _, O.ob, by show 3 < 1000; decide, ?_⟩
      exact ⟨_, rfl, k _ (fun c o hc e => by rw [upd_ne hc]; exact e) O2⟩
/-! refuse -/
/-- what BadText(ln, wd) tells, to those that catch it -/
def BadE (K : PySem.W.Frag) (H : Hp) (E : XK) (ln wd : V) : Prop := ∀ d, H d = none → E (.ref (gT K)) (some d) (upd H d (.xd [("word", wd), ("line", ln)]))
def spRefuse (K : PySem.W.Frag) : Sp := fun vs H _ E => ∃ p dx tp ws ln t, vs = [.ref p] ∧ WO K H p dx tp ws ln t ∧ BadE K H E (.int ln) (.int t)
theorem scRf : FnScope ["self"] ["self"] (defScope (wSt 11)) := ⟨rfl, rfl, rfl, by decide +kernel, rfl, by decide +kernel, by decide +kernel⟩
theorem ok_refuse (T : KF P w K mg base) {fd : FuncData} (F : FunD K "refuse" "Words.refuse" (defArgs (wSt 11)) (defBody (wSt 11)) (defScope (wSt 11)) [] [] (mAd K "refuse") fd) : FnOk P w K mg base (L2.CX P w) 3 (mAd K "refuse") fd ["self"] (spRefuse K) := by
  refine F.ok scRf (fun vs H Q E h => ?_) (fun cdv A outer s H vs Q E hr h => ?_)
  · obtain ⟨p, dx, tp, ws, ln, t, rfl, _⟩ := h
    rfl
  · obtain ⟨p, dx, tp, ws, ln, t, rfl, O, k⟩ := h
    refine ⟨_, pss_one (ps_bad T hr rfl (takes_of rfl rfl rfl rfl) (by rfl) (pe_fld (pv 0) rfl) (pe_fld (pv 0) rfl)), ?_⟩
    refine ⟨_, rfl, p, _, dx, _, _, rfl, O.ob, T.cl, T.noL, rfl, _, rfl, p, _, dx, _, _, rfl, O.ob, T.cl, T.noT, rfl, ?_⟩
    exact mkb k
end
end K7
set_option Elab.async false
set_option linter.all false
set_option maxRecDepth 100000
set_option maxHeartbeats 1000000
namespace K7
open PySem PySem.Spec PyProof.Rows L2 RV EV He EF EI
/-! The class Words: take, end, take_by, take_fix, take_number. -/
theorem _root_.L2.FnOk.up0 {P : Program} {w : World} {K : PySem.W.Frag} {mg : Str → Option Value} {base : Heap} {CX : CXT} {k : Nat} {f : Addr} {fd : FuncData} {ps : List Str} {sp : Sp} (F : FnOk P w K mg base CX0 k f fd ps sp) : FnOk P w K mg base CX k f fd ps sp :=
  ⟨F.len, fun A outer s H args us vs Q E hr e0 hb r h => codeAny_mono (F.run A outer s H args us vs Q E hr e0 hb r h) fun rs s' hq => by
    cases rs with
    | error e => exact (show False from hq).elim
    | ok fl => cases fl <;> exact hq⟩
/-- the next word is taken, or refused -/
structure Out (K : PySem.W.Frag) (H : Hp) (p dx tp : Addr) (ws : List Str) (ln : Int) (t : Nat) (b : Bool) (v : V) (Q : VK) (E : XK) : Prop where
  yes : b = true → ∀ H', Same2 H H' p → WO K H' p dx tp ws ln (t + 1) → Q v H'
  no : b = false → ∀ H', Same H H' → BadE K H' E (.int ln) (.int t)
theorem Same.two {H H1 H2 : Hp} {p : Addr} (a : Same H H1) (b : Same2 H1 H2 p) : Same2 H H2 p := fun c o hc e => b c o hc (a c o e)
theorem nextB_lt {ws : List Str} {t : Nat} {ss : List Str} (h : nextB ws t ss = true) : t < ws.length := of_decide_eq_true (Bool.and_eq_true_iff.mp h).1
def spTake0 (K : PySem.W.Frag) : Sp := fun vs H Q E => ∃ p dx tp ws ln t T ss, vs = [.ref p, .ref T] ∧ WO K H p dx tp ws ln t ∧ H T = some (.tup (ss.map V.str)) ∧ ss.length ≤ 5 ∧ Out K H p dx tp ws ln t (nextB ws t ss) (.str (ws.getD t "")) Q E
section
variable {P : Program} {w : World} {K : PySem.W.Frag} {mg : Str → Option Value} {base : Heap}
/-- the methods as they are called -/
structure MC (P : Program) (w : World) (K : PySem.W.Frag) (mg : Str → Option Value) (base : Heap) : Prop where
  nx : FnR P w K mg base CX0 1 (mAd K "is_next") (spStar (spNext0 K))
  st : ∃ fd, FnOk P w K mg base CX0 1 (mAd K "step") fd ["self"] (spStep K) ∧ L2.Binds K fd ["self"] []
  rf : ∃ fd, FnOk P w K mg base (L2.CX P w) 3 (mAd K "refuse") fd ["self"] (spRefuse K) ∧ L2.Binds K fd ["self"] []
theorem mc (T : KF P w K mg base) : MC P w K mg base := by
  obtain ⟨_, f1, F1⟩ := T.meth ("step", 10) (by decide)
  obtain ⟨_, f2, F2⟩ := T.meth ("refuse", 11) (by decide)
  exact ⟨ok_next T, ⟨f1, ok_step T F1, FunD.bindsN F1 fun _ _ _ _ _ _ us hl => match us, hl with | [_], _ => rfl⟩, ⟨f2, ok_refuse T F2, FunD.bindsN F2 fun _ _ _ _ _ _ us hl => match us, hl with | [_], _ => rfl⟩⟩
theorem mt (T : KF P w K mg base) (q : Str × Nat) (h : q ∈ methN) : Meth K (gW K) q.1 (mAd K q.1) := (T.meth q h).1
abbrev scTk_N : List Str := ["self", "some"]
theorem scTk : FnScope scTk_N ["self", "some"] (defScope (wSt 6)) := ⟨rfl, rfl, rfl, by decide +kernel, rfl, by decide +kernel, by decide +kernel⟩
theorem ok_take (T : KF P w K mg base) : FnR P w K mg base (L2.CX P w) 4 (mAd K "take") (spStar (spTake0 K)) := by
  obtain ⟨_, fd, F⟩ := T.meth ("take", 6) (by decide)
  obtain ⟨nx, ⟨fS, GS, bS⟩, ⟨fR, GR, bR⟩⟩ := mc T
  obtain ⟨oc, od, dV, kV, doc, pm, an, cdv, ct, osl, rfl, lk, hcd, hD, hK⟩ := F.ex
  rcases hD with ⟨_, rfl⟩ | ⟨e, _⟩
  case inr => exact absurd rfl e
  refine StX.fn_star (ps := ["self"]) (pv := "some") lk hcd scTk StX.cxUp (StX.bind_star1 (B := fun us => bindArgs _ ⟨us, []⟩) (fun a => rfl) fun a r rs => rfl) fun A outer s H vs Q E hr h => ?_
  obtain ⟨p, dx, tp, ws, ln, t, T', ss, rfl, O, hT, hz, k⟩ := h
  refine ⟨_, pss_cons (ps_if (pt_not (pt_val (pe_methS (E := E0) (pv 0) T.cl T.nb nx (hr.mono (by decide)) pass0 (pv 1))))
      (pss_one (ps_expr (pe_meth0 (E := E) (pv 0) T.cl (mt T ("refuse", 11) (by decide)) GR hr bR .nil (passes_call (takes_of rfl rfl rfl rfl) fun _ _ _ _ h => h)))) pss_nil)
    (pss_one (ps_ret (pe_meth0 (E := E0) (pv 0) T.cl (mt T ("step", 10) (by decide)) GS (hr.mono (by decide)) bS .nil pass0))), ?_⟩
  refine ⟨_, rfl, p, dx, _, rfl, O.ob, rfl, fun q nq => ?_⟩
  have s1 := same_new (o := .met (mAd K "is_next") p) nq
  refine ⟨_, rfl, T', _, rfl, SqT.of (s1 _ _ hT), upd_same, nxt_of ss (O.same s1) hz fun H2 s2 => ⟨nextB ws t ss, rfl, ?_⟩⟩
  have s2 := s1.trans s2
  have O2 := O.same s2
  cases e : nextB ws t ss with
  | true => exact if_negB rfl ⟨_, rfl, p, dx, _, rfl, O2.ob, rfl, p, dx, tp, ws, ln, t, rfl, O2, nextB_lt e, fun H3 s3 O3 => k.yes e H3 (Same.two s2 s3) O3⟩
  | false => exact if_posB rfl ⟨_, rfl, p, dx, _, rfl, O2.ob, rfl, p, dx, tp, ws, ln, t, rfl, O2, k.no e H2 s2⟩
theorem tak_of {H : Hp} {Q : VK} {E : XK} {p dx tp : Addr} {ws : List Str} {ln : Int} {t : Nat} (ss : List Str) (O : WO K H p dx tp ws ln t) (hz : ss.length ≤ 5) (k : Out K H p dx tp ws ln t (nextB ws t ss) (.str (ws.getD t "")) Q E) :
    spStar (spTake0 K) (.ref p :: ss.map V.str) H Q E := by
  refine ⟨[.ref p], ss.map V.str, rfl, rfl, by rw [List.length_map, sizeLine_eq]; omega, fun T nT => ?_⟩
  have s := same_new (o := .tup (ss.map V.str)) nT
  exact ⟨p, dx, tp, ws, ln, t, T, ss, rfl, O.same s, upd_same, hz, ⟨fun e H' s' O' => k.yes e H' (Same.two s s') O', fun e H' s' => k.no e H' (s.trans s')⟩⟩
/-! end -/
def spEnd (K : PySem.W.Frag) : Sp := fun vs H Q E => ∃ p dx tp ws ln t, vs = [.ref p] ∧ WO K H p dx tp ws ln t ∧ (t = ws.length → ∀ H', Same H H' → Q .non H') ∧ (t < ws.length → ∀ H', Same H H' → BadE K H' E (.int ln) (.int t))
theorem scEn : FnScope ["self"] ["self"] (defScope (wSt 13)) := ⟨rfl, rfl, rfl, by decide +kernel, rfl, by decide +kernel, by decide +kernel⟩
theorem ok_end (T : KF P w K mg base) {fd : FuncData} (F : FunD K "end" "Words.end" (defArgs (wSt 13)) (defBody (wSt 13)) (defScope (wSt 13)) [] [] (mAd K "end") fd) : FnOk P w K mg base (L2.CX P w) 4 (mAd K "end") fd ["self"] (spEnd K) := by
  obtain ⟨nx, ⟨fS, GS, bS⟩, ⟨fR, GR, bR⟩⟩ := mc T
  refine F.ok scEn (fun vs H Q E h => ?_) (fun cdv A outer s H vs Q E hr h => ?_)
  · obtain ⟨p, dx, tp, ws, ln, t, rfl, _⟩ := h
    rfl
  · obtain ⟨p, dx, tp, ws, ln, t, rfl, O, k1, k2⟩ := h
    refine ⟨_, pss_one (ps_if (pt_val (pe_meth0R (E := E0) (pv 0) T.cl (mt T ("is_next", 5) (by decide)) nx (hr.mono (by decide)) pass0))
      (pss_one (ps_expr (pe_meth0 (E := E) (pv 0) T.cl (mt T ("refuse", 11) (by decide)) GR hr bR .nil (passes_call (takes_of rfl rfl rfl rfl) fun _ _ _ _ h => h)))) pss_nil), ?_⟩
    refine ⟨_, rfl, p, dx, _, rfl, O.ob, rfl, nxt_of [] O (by decide) fun H2 s2 => ⟨_, rfl, ?_⟩⟩
    by_cases h : t < ws.length
    · refine if_posB (by unfold nextB; rw [decide_eq_true h]; rfl) ⟨_, rfl, p, dx, _, rfl, (O.same s2).ob, rfl, p, dx, tp, ws, ln, t, rfl, O.same s2, k2 h H2 s2⟩
    · have := O.le
      refine if_negB (by unfold nextB; rw [decide_eq_false h]; rfl) (k1 (by omega) H2 s2)
/-! take_by -/
def spBy (K : PySem.W.Frag) (r : Addr) (spr : Sp) : Sp := fun vs H Q E => ∃ p dx tp ws ln t, vs = [.ref p, .ref r] ∧ WO K H p dx tp ws ln t ∧ (t = ws.length → ∀ H', Same H H' → BadE K H' E (.int ln) (.int t)) ∧
  (t < ws.length → ∀ (H1 : Hp) (Q1 : VK), Same H H1 → (∀ b H2, Same H1 H2 → Out K H2 p dx tp ws ln t b (.str (ws.getD t "")) Q E → Q1 (.bl b) H2) → spr [.str (ws.getD t "")] H1 Q1 E)
abbrev scBy_N : List Str := ["self", "rule"]
theorem scBy : FnScope scBy_N ["self", "rule"] (defScope (wSt 9)) := ⟨rfl, rfl, rfl, by decide +kernel, rfl, by decide +kernel, by decide +kernel⟩
theorem ok_by (T : KF P w K mg base) {fd fdr : FuncData} {r : Addr} {psr : List Str} {spr : Sp} {kr : Nat} (F : FunD K "take_by" "Words.take_by" (defArgs (wSt 9)) (defBody (wSt 9)) (defScope (wSt 9)) [] [] (mAd K "take_by") fd)
    (R : FnOk P w K mg base (L2.CX P w) kr r fdr psr spr) (hk : kr ≤ 3) (kp : PySem.W.keepIn K (.ref r) = true) (br : L2.Binds K fdr psr []) : FnOk P w K mg base (L2.CX P w) 4 (mAd K "take_by") fd ["self", "rule"] (spBy K r spr) := by
  obtain ⟨nx, ⟨fS, GS, bS⟩, ⟨fR, GR, bR⟩⟩ := mc T
  refine F.ok scBy (fun vs H Q E h => ?_) (fun cdv A outer s H vs Q E hr h => ?_)
  · obtain ⟨p, dx, tp, ws, ln, t, rfl, _⟩ := h
    rfl
  · obtain ⟨p, dx, tp, ws, ln, t, rfl, O, k1, k2⟩ := h
    refine ⟨_, pss_cons (ps_if (PW.pt (pw_or (pt_not (pt_val (pe_meth0R (E := E0) (pv 0) T.cl (mt T ("is_next", 5) (by decide)) nx (hr.mono (by decide)) pass0)))
          (pw_or1 (pt_cmpR op_isnot_bl (pe_callL (i := 1) (f := r) (E := E) (dvs := []) R (hr.mono hk) rfl (.inl rfl) kp br .nil (passes_call (takes_of rfl rfl rfl rfl) fun _ _ _ _ h => h) (pa_cons (pe_ix ix_tup (pe_fld (pv 0) rfl) (pe_fld (pv 0) rfl) (fun _ _ => rfl)) pa_nil)) pe_bl (nomark _)))))
        (pss_one (ps_expr (pe_meth0 (E := E) (pv 0) T.cl (mt T ("refuse", 11) (by decide)) GR hr bR .nil (passes_call (takes_of rfl rfl rfl rfl) fun _ _ _ _ h => h)))) pss_nil)
      (pss_one (ps_ret (pe_meth0 (E := E0) (pv 0) T.cl (mt T ("step", 10) (by decide)) GS (hr.mono (by decide)) bS .nil pass0))), ?_⟩
    refine ⟨_, rfl, p, dx, _, rfl, O.ob, rfl, nxt_of [] O (by decide) fun H1 s1 => ⟨nextB ws t [], rfl, ?_⟩⟩
    have O1 := O.same s1
    by_cases h : t < ws.length
    · rw [show nextB ws t [] = true by unfold nextB; rw [decide_eq_true h]; rfl]
      refine if_negB rfl ⟨rfl, _, rfl, p, _, dx, _, _, rfl, O1.ob, T.cl, T.noP, rfl, _, rfl, p, _, dx, _, _, rfl, O1.ob, T.cl, T.noT, rfl, tp, _, _, .str (ws.getD t ""), rfl, rfl, SqT.of O1.ps, atI_nat ?_, ?_⟩
      · rw [List.getElem?_map, getD_at h]
        rfl
      · refine k2 h H1 _ s1 fun b H2 s2 o => ⟨b, true, rfl, rfl, _, rfl, ?_⟩
        have O2 := O1.same s2
        cases b with
        | true => exact if_negB rfl ⟨_, rfl, p, dx, _, rfl, O2.ob, rfl, p, dx, tp, ws, ln, t, rfl, O2, h, fun H3 s3 O3 => o.yes rfl H3 s3 O3⟩
        | false => exact if_posB rfl ⟨_, rfl, p, dx, _, rfl, O2.ob, rfl, p, dx, tp, ws, ln, t, rfl, O2, o.no rfl H2 fun _ _ e => e⟩
    · rw [show nextB ws t [] = false by unfold nextB; rw [decide_eq_false h]; rfl]
      have := O.le
      exact if_posB rfl (if_posB rfl ⟨_, rfl, p, dx, _, rfl, O1.ob, rfl, p, dx, tp, ws, ln, t, rfl, O1, k1 (by omega) H1 s1⟩)
theorem Out.same {H H1 : Hp} {p dx tp : Addr} {ws : List Str} {ln : Int} {t : Nat} {b : Bool} {v : V} {Q : VK} {E : XK} (o : Out K H p dx tp ws ln t b v Q E) (s : Same H H1) : Out K H1 p dx tp ws ln t b v Q E :=
  ⟨fun e H' s' O' => o.yes e H' (Same.two s s') O', fun e H' s' => o.no e H' (s.trans s')⟩
/-! take_fix -/
def spTFix (K : PySem.W.Frag) : Sp := fun vs H Q E => ∃ p dx tp ws ln t, vs = [.ref p] ∧ WO K H p dx tp ws ln t ∧ (∀ x ∈ ws, x.length ≤ 1000000) ∧ Out K H p dx tp ws ln t (decide (t < ws.length) && isFixB (ws.getD t "")) (.str (ws.getD t "")) Q E
theorem scTf : FnScope ["self"] ["self"] (defScope (wSt 7)) := ⟨rfl, rfl, rfl, by decide +kernel, rfl, by decide +kernel, by decide +kernel⟩
theorem getD_mem {ws : List Str} {t : Nat} (h : t < ws.length) : ws.getD t "" ∈ ws := List.mem_of_getElem? (getD_at h)
theorem blt2 (T : KF P w K mg base) : Blt2 mg := ⟨T.fr _ (by decide), T.fr _ (by decide), T.fr _ (by decide), T.fr _ (by decide), T.fr _ (by decide), T.fr _ (by decide)⟩
theorem ok_tfix (T : KF P w K mg base) {fd : FuncData} (F : FunD K "take_fix" "Words.take_fix" (defArgs (wSt 7)) (defBody (wSt 7)) (defScope (wSt 7)) [] [] (mAd K "take_fix") fd) : FnOk P w K mg base (L2.CX P w) 5 (mAd K "take_fix") fd ["self"] (spTFix K) := by
  obtain ⟨fdF, FF, gF⟩ := T.tops ("is_fix", 4) (by decide)
  obtain ⟨_, fB, FB⟩ := T.meth ("take_by", 9) (by decide)
  have GF : FnOk P w K mg base (L2.CX P w) 1 (ga K "is_fix") fdF ["value"] (spFix K) := (ok_fix FF (blt2 T)).up0
  have bF : L2.Binds K fdF ["value"] [] := FunD.bindsN FF fun _ _ _ _ _ _ us hl => match us, hl with | [_], _ => rfl
  have GB := ok_by T FB GF (by decide) FF.kp bF
  have bB : L2.Binds K fB ["self", "rule"] [] := FunD.bindsN FB fun _ _ _ _ _ _ us hl => match us, hl with | [_, _], _ => rfl
  refine F.ok scTf (fun vs H Q E h => ?_) (fun cdv A outer s H vs Q E hr h => ?_)
  · obtain ⟨p, dx, tp, ws, ln, t, rfl, _⟩ := h
    rfl
  · obtain ⟨p, dx, tp, ws, ln, t, rfl, O, hz, o⟩ := h
    refine ⟨_, pss_one (ps_ret (pe_meth (E := E) (pv 0) T.cl (mt T ("take_by", 9) (by decide)) GB hr bB .nil (passes_call (takes_of rfl rfl rfl rfl) fun _ _ _ _ h => h) (pa_cons (pe_glob (v := .ref (ga K "is_fix")) (by rfl) gF rfl) pa_nil))), ?_⟩
    refine ⟨_, rfl, p, dx, _, rfl, O.ob, rfl, p, dx, tp, ws, ln, t, rfl, O, fun e => ?_, fun h H1 Q1 s1 kq => ?_⟩
    · exact o.no (by rw [decide_eq_false (by omega)]; rfl)
    · refine ⟨_, rfl, .inl ⟨_, rfl, hz _ (getD_mem h), fun H2 s2 => kq _ H2 s2 ?_⟩⟩
      have o2 := (o.same s1).same s2
      rw [decide_eq_true h, Bool.true_and] at o2
      exact o2
end
end K7
set_option Elab.async false
set_option linter.all false
set_option maxRecDepth 100000
set_option maxHeartbeats 1000000
namespace K7
open PySem PySem.Spec PyProof.Rows L2 RV EV He EF EI
section
variable {P : Program} {w : World} {K : PySem.W.Frag} {mg : Str → Option Value} {base : Heap}
def spInit (K : PySem.W.Frag) : Sp := fun vs H Q E => ∃ p dx v ln, vs = [.ref p, v, .int ln] ∧ H p = some (.ins (gW K) dx []) ∧
  ((∃ t, TyX K H v (.type t) ∧ kitB t "str" = some false ∧ BadE K H E (.int ln) (.int 0)) ∨
   ∃ x, v = .str x ∧ x.length ≤ 1000000 ∧ (Txt.split x " ").length ≤ 1000 ∧ ∀ H' tp, Same2 H H' p → WO K H' p dx tp (Txt.split x " ") ln 0 → Q .non H')
abbrev scIn_N : List Str := ["self", "text", "line"]
theorem scIn : FnScope scIn_N ["self", "text", "line"] (defScope (wSt 0)) := ⟨rfl, rfl, rfl, by decide +kernel, rfl, by decide +kernel, by decide +kernel⟩
theorem ok_init (T : KF P w K mg base) {fd : FuncData} (F : FunD K "__init__" "Words.__init__" (defArgs (wSt 0)) (defBody (wSt 0)) (defScope (wSt 0)) [.int 0] [] (mAd K "__init__") fd) : FnOk P w K mg base (L2.CX P w) 3 (mAd K "__init__") fd ["self", "text", "line"] (spInit K) := by
  refine F.ok scIn (fun vs H Q E h => ?_) (fun cdv A outer s H vs Q E hr h => ?_)
  · obtain ⟨p, dx, v, ln, rfl, _⟩ := h
    rfl
  · obtain ⟨p, dx, v, ln, rfl, O, k⟩ := h
    refine ⟨_, pss_cons (ps_if (pt_not (pt_val (pe_callB call_isi (by rfl) (T.fr "isinstance" (by decide)) PyProof.Rows.boot_isinstance (pa_cons (pv 1) (pa_cons (pe_bltn (v := .ty "str") (by rfl) (T.fr "str" (by decide)) boot_T rfl) pa_nil)))))
        (pss_one (ps_bad T hr rfl (takes_of rfl rfl rfl rfl) (by rfl) (pv 2) pe_int)) pss_nil)
      (pss_cons (ps_fld (pv 0) (pe_callTy call_tuple_of (by rfl) (T.fr "tuple" (by decide)) boot_T (pa_cons (pe_split (pv 1) pe_str) pa_nil)) rfl)
      (pss_cons (ps_fld (pv 0) (pv 2) rfl) (pss_one (ps_fld (pv 0) pe_int rfl)))), ?_⟩
    rcases k with ⟨t, ht, e, k⟩ | ⟨x, rfl, hz, hl, k⟩
    · refine ⟨v, rfl, v, .ty "str", _, _, false, rfl, .ty _, ht, kit_ty e, false, rfl, if_posB rfl ⟨_, rfl, mkb k⟩⟩
    · refine ⟨.str x, rfl, .str x, .ty "str", _, _, true, rfl, .ty _, .base (.str x), kit_ty (by decide +kernel), true, rfl, if_negB rfl ?_⟩
      refine ⟨_, rfl, ⟨_, rfl⟩, x, " ", rfl, rfl, by decide +kernel, by rw [sizeLine_eq]; omega, fun l nl => ⟨l, _, rfl, .inl ⟨SqL.of upd_same, fun tp nt => ?_⟩⟩⟩
      have n1 : p ≠ l := ne_of_none O nl
      have O1 : upd H l (.lst ((Txt.split x " ").map V.str)) p = some (.ins (gW K) dx []) := by rw [upd_ne n1]; exact O
      have n2 : p ≠ tp := ne_of_none O1 nt
      have O2 : upd (upd H l (.lst ((Txt.split x " ").map V.str))) tp (.tup ((Txt.split x " ").map V.str)) p = some (.ins (gW K) dx []) := by rw [upd_ne n2]; exact O1
      refine ⟨_, rfl, p, gW K, dx, _, rfl, O2, T.cl, T.noP, by show 0 < 1000; decide, ?_⟩
      refine ⟨_, rfl, _, rfl, p, gW K, dx, _, rfl, upd_same, T.cl, T.noL, by show 1 < 1000; decide, ?_⟩
      refine ⟨_, rfl, p, gW K, dx, _, rfl, upd_same, T.cl, T.noT, by show 2 < 1000; decide, ?_⟩
      refine k _ tp (fun c o hc e => ?_) ⟨by rw [upd_same]; rfl, ?_, Nat.zero_le _, hl⟩
      · rw [upd_ne hc, upd_ne hc, upd_ne hc]
        exact ((same_new nl).trans (same_new nt)) c o e
      · rw [upd_ne (Ne.symm n2), upd_ne (Ne.symm n2), upd_ne (Ne.symm n2)]
        exact upd_same
end
end K7
set_option Elab.async false
set_option linter.all false
set_option maxRecDepth 100000
set_option maxHeartbeats 1000000
/-! Names in order: no Python here. -/
namespace K7
open PySem PySem.Spec PyProof.Rows
/-- x is ahead of y -/
def LtS (x y : Str) : Prop := x.cps.toList < y.cps.toList
instance (x y : Str) : Decidable (LtS x y) := inferInstanceAs (Decidable (x.cps.toList < y.cps.toList))
theorem lt_irr (x : Str) : ¬ LtS x x := List.lt_irrefl _
theorem lt_tr {x y z : Str} (a : LtS x y) (b : LtS y z) : LtS x z := List.lt_trans a b
theorem lt_as {x y : Str} (a : LtS x y) : ¬ LtS y x := List.lt_asymm a
theorem lt_tri {x y : Str} (a : ¬ LtS x y) (b : ¬ LtS y x) : x = y := by
  refine ext_toList ?_
  have a' : y.cps.toList ≤ x.cps.toList := List.not_lt.mp a
  have b' : x.cps.toList ≤ y.cps.toList := List.not_lt.mp b
  exact List.le_antisymm b' a'
theorem lt_ne {x y : Str} (a : LtS x y) : x ≠ y := fun e => lt_irr y (e ▸ a)
abbrev Asc (xs : List Str) : Prop := xs.Pairwise LtS
def insS (x : Str) : List Str → List Str
  | [] => [x]
  | y :: r => if LtS x y then x :: y :: r else if LtS y x then y :: insS x r else y :: r
def lined (xs : List Str) : List Str := xs.foldr insS []
theorem mem_ins {a x : Str} : ∀ {l : List Str}, a ∈ insS x l ↔ a = x ∨ a ∈ l
  | [] => by simp [insS]
  | y :: r => by
    unfold insS
    split
    · simp
    · split
      · rw [List.mem_cons, mem_ins, List.mem_cons]
        constructor
        · rintro (h | h | h)
          · exact .inr (.inl h)
          · exact .inl h
          · exact .inr (.inr h)
        · rintro (h | h | h)
          · exact .inr (.inl h)
          · exact .inl h
          · exact .inr (.inr h)
      · rename_i h1 h2
        have e := lt_tri h1 h2
        subst e
        simp
theorem mem_lined {a : Str} : ∀ {l : List Str}, a ∈ lined l ↔ a ∈ l
  | [] => Iff.rfl
  | x :: r => by
    show a ∈ insS x (lined r) ↔ _
    rw [mem_ins, mem_lined, List.mem_cons]
theorem asc_ins {x : Str} : ∀ {l : List Str}, Asc l → Asc (insS x l)
  | [], _ => by simp [insS]
  | y :: r, h => by
    obtain ⟨h1, h2⟩ := List.pairwise_cons.mp h
    unfold insS
    split
    · rename_i q
      refine List.pairwise_cons.mpr ⟨fun z hz => ?_, h⟩
      rcases List.mem_cons.mp hz with e | e
      · rw [e]; exact q
      · exact lt_tr q (h1 z e)
    · split
      · rename_i q
        refine List.pairwise_cons.mpr ⟨fun z hz => ?_, asc_ins h2⟩
        rcases mem_ins.mp hz with e | e
        · rw [e]; exact q
        · exact h1 z e
      · exact h
theorem asc_lined : ∀ (l : List Str), Asc (lined l)
  | [] => List.Pairwise.nil
  | x :: r => asc_ins (asc_lined r)
/-- ascending lists of the same names are the same -/
theorem asc_uniq : ∀ {xs ys : List Str}, Asc xs → Asc ys → (∀ a, a ∈ xs ↔ a ∈ ys) → xs = ys
  | [], [], _, _, _ => rfl
  | [], y :: ys, _, _, h => absurd ((h y).mpr (List.mem_cons_self ..)) (by simp)
  | x :: xs, [], _, _, h => absurd ((h x).mp (List.mem_cons_self ..)) (by simp)
  | x :: xs, y :: ys, hx, hy, h => by
    obtain ⟨x1, x2⟩ := List.pairwise_cons.mp hx
    obtain ⟨y1, y2⟩ := List.pairwise_cons.mp hy
    have e : x = y := by
      rcases List.mem_cons.mp ((h x).mp (List.mem_cons_self ..)) with e | e
      · exact e
      · rcases List.mem_cons.mp ((h y).mpr (List.mem_cons_self ..)) with e2 | e2
        · exact e2.symm
        · exact absurd (y1 x e) (lt_as (x1 y e2))
    subst e
    refine congrArg (x :: ·) (asc_uniq x2 y2 fun a => ?_)
    constructor
    · intro ha
      rcases List.mem_cons.mp ((h a).mp (List.mem_cons_of_mem _ ha)) with e | e
      · exact absurd (e ▸ x1 a ha) (lt_irr _)
      · exact e
    · intro ha
      rcases List.mem_cons.mp ((h a).mpr (List.mem_cons_of_mem _ ha)) with e | e
      · exact absurd (e ▸ y1 a ha) (lt_irr _)
      · exact e
theorem lined_asc {l : List Str} (h : Asc l) : lined l = l := asc_uniq (asc_lined l) h fun _ => mem_lined
theorem lined_eq {l m : List Str} (h : ∀ a, a ∈ l ↔ a ∈ m) : lined l = lined m := asc_uniq (asc_lined l) (asc_lined m) fun a => by rw [mem_lined, mem_lined]; exact h a
theorem asc_nodup {l : List Str} (h : Asc l) : l.Nodup := List.Pairwise.imp (fun a => lt_ne a) h
theorem ins_len {x : Str} : ∀ (l : List Str), (insS x l).length ≤ l.length + 1
  | [] => by simp [insS]
  | y :: r => by
    unfold insS
    split
    · simp
    · split
      · have := ins_len (x := x) r
        simp only [List.length_cons]
        omega
      · simp
theorem lined_len : ∀ (l : List Str), (lined l).length ≤ l.length
  | [] => Nat.le_refl _
  | x :: r => by
    have h1 := ins_len (x := x) (lined r)
    have h2 := lined_len r
    show (insS x (lined r)).length ≤ r.length + 1
    omega
/-- a sorted list without twins is ascending -/
theorem asc_of_sorted {ys : List Str} (h : sortedS ys = true) (hn : ys.Nodup) : Asc ys := by
  have key : ∀ (r : List Str) (p : Str), risingS p r = true → (p :: r).Pairwise fun a b => ¬ LtS b a := by
    intro r
    induction r with
    | nil => intro p _; simp
    | cons y r ih =>
      intro p hp
      unfold risingS at hp
      obtain ⟨h1, h2⟩ := Bool.and_eq_true_iff.mp hp
      have ih2 := ih y h2
      have q : ¬ LtS y p := by
        rw [ltCps_eq] at h1
        exact of_decide_eq_false (Bool.not_eq_true' _ ▸ h1)
      refine List.pairwise_cons.mpr ⟨fun z hz => ?_, ih2⟩
      rcases List.mem_cons.mp hz with e | e
      · rw [e]; exact q
      · intro zp
        have yz := (List.pairwise_cons.mp ih2).1 z e
        by_cases c : LtS y z
        · exact q (lt_tr c zp)
        · rw [lt_tri c yz] at q
          exact q zp
  have all : ys.Pairwise fun a b => ¬ LtS b a := by
    cases ys with
    | nil => exact List.Pairwise.nil
    | cons y r => exact key r y h
  refine List.Pairwise.imp (fun {a b} ⟨h1, h2⟩ => ?_) (List.Pairwise.and hn all)
  by_cases c : LtS a b
  · exact c
  · exact absurd (lt_tri c h2) h1
/-- sorted of unlike names: in order -/
theorem sorted_lined {xs ys : List Str} (hp : ys.Perm xs) (hs : sortedS ys = true) (hn : xs.Nodup) : ys = lined xs :=
  asc_uniq (asc_of_sorted hs (hp.symm.nodup hn)) (asc_lined xs) fun a => by rw [mem_lined]; exact hp.mem_iff
end K7
set_option Elab.async false
set_option linter.all false
set_option maxRecDepth 100000
set_option maxHeartbeats 1000000
/-! Operators of an own class: x < y, x != y, x | y, y in x, x[i], str(x). -/
namespace Oo
open PySem PySem.Spec PyProof.Rows L2
section
variable {X : Cx} {CX : CXT} {k : Nat} {C f : Addr} {sp : Sp} {E : XK} {pins : List (Addr × Obj)} {σ : L2.St} {H : Hp} {s : Shared}
theorem looks_ty {x : V} {u t : Value} (I : Inv X pins σ H s) (rx : RelV x u) (ty : TyX X.K H x t) : PySem.W.Looks (model X.prog X.w) s.heap (typeOf u) t := by
  obtain ⟨P, Z, p, _⟩ := kit_of I rx ty
  exact Z.ty _ _ I.kIn p
/-- no value of ours is NotImplemented -/
theorem back_of {v : V} {u : Value} {s' : Shared} {Q : Value → Shared → Prop} (r : RelV v u) (h : Q u s') : PySem.W.CmpBack Q u s' := by
  cases v with
  | non => obtain rfl : u = .none := r; exact h
  | bl b => obtain rfl : u = .bool b := r; exact h
  | int i => obtain ⟨t, rfl⟩ := r; exact h
  | str x => obtain ⟨t, rfl⟩ := r; exact h
  | byt x => obtain ⟨t, rfl⟩ := r; exact h
  | flt x => obtain ⟨t, rfl⟩ := r; exact h
  | ref a => obtain rfl : u = .ref a := r; exact h
  | ty n => obtain rfl : u = .type n := r; exact h
/-- an own method of two places: x of the class at C, y of a kind that ok lets -/
def rOwn2 (K : PySem.W.Frag) (C : Addr) (ok : Value → Prop) (sp : Sp) (E : XK) : R2 := fun x y H Q => ∃ a dx fs t, x = .ref a ∧ H a = some (.ins C dx fs) ∧ TyX K H y t ∧ ok t ∧ sp [.ref a, y] H Q E
/-- x < y and the like -/
theorem op_cmpO {op : CmpOp} (hop : ∀ a b, compareOp op a b = richCompare op a b) (hm : Meth X.K C (cmpInfo op).2.1 f) (F : FnR X.prog X.w X.K X.mg X.base CX k f sp) (hr : Room k X.A) (hx : Passes CX X E) :
    OpR X (compareOp op) (rOwn2 X.K C (fun t => PySem.W.notFirst X.K C t = true) sp E) := by
  intro pins s σ H x y v u Q I rx ry h
  obtain ⟨a, dx, fs, t, rfl, ea, ty, hn, q⟩ := h
  obtain rfl : v = Value.ref a := rx
  rw [hop]
  obtain ⟨mA, O, _⟩ := ins_get I.hok ea
  obtain ⟨od, J, _⟩ := O.look
  obtain ⟨m, hF⟩ := I.fr
  refine PySem.W.cmp_K hr.units0 hF I.ok.mod.kin J (looks_ty I ry ty) hn hm.at_ hm.fn (thn (wpAny_call (run_fnR (us := [.ref a, u]) (vs := [.ref a, y]) F hr hx I (.cons rfl (.cons ry .nil)) q)) fun z s' hz => ?_)
  obtain ⟨w, H', I', rw', q'⟩ := hz
  exact back_of rw' ⟨w, H', I', rw', q'⟩
/-- x | y and the like, y of the same class -/
theorem op_binO {op : Operator} (hm : Meth X.K C (PySem.dunder op.info.2) f) (hs : PySem.W.selfFirst X.K C = true) (F : FnR X.prog X.w X.K X.mg X.base CX k f sp) (hr : Room k X.A) (hx : Passes CX X E) :
    OpR X (binaryOp op) (rOwn2 X.K C (fun t => t = .ref C) sp E) := by
  intro pins s σ H x y v u Q I rx ry h
  obtain ⟨a, dx, fs, t, rfl, ea, ty, rfl, q⟩ := h
  obtain rfl : v = Value.ref a := rx
  obtain ⟨mA, O, _⟩ := ins_get I.hok ea
  obtain ⟨od, J, _⟩ := O.look
  obtain ⟨m, hF⟩ := I.fr
  refine PySem.W.binop_K hF I.ok.mod.kin J (looks_ty I ry ty) hs hm.at_ hm.fn (thn (wpAny_call (run_fnR (us := [.ref a, u]) (vs := [.ref a, y]) F hr hx I (.cons rfl (.cons ry .nil)) q)) fun z s' hz => ?_)
  obtain ⟨w, H', I', rw', q'⟩ := hz
  exact back_of rw' ⟨w, H', I', rw', q'⟩
/-- y in x, by __contains__ that gives a Bool -/
def rInO (C : Addr) (g : Bool → Bool) (sp : Sp) (E : XK) : R2 := fun y x H Q => ∃ a dx fs, x = .ref a ∧ H a = some (.ins C dx fs) ∧ sp [.ref a, y] H (fun v H' => ∃ b, v = .bl b ∧ Q (.bl (g b)) H') E
theorem contO (hm : Meth X.K C "__contains__" f) (F : FnR X.prog X.w X.K X.mg X.base CX k f sp) (hr : Room k X.A) (hx : Passes CX X E) {a dx : Addr} {fs : List (Str × V)} {y : V} {u : Value} {g : Bool → Bool} {Q : VK} (I : Inv X pins σ H s) (ry : RelV y u) (ea : H a = some (.ins C dx fs))
    (q : sp [.ref a, y] H (fun v H' => ∃ b, v = .bl b ∧ Q (.bl (g b)) H') E) : wpAny (model X.prog X.w) X.A (call (.ref f) [.ref a, u]) (fun r s' => wpAny (model X.prog X.w) X.A (truthy r) (fun b s'' => EP X pins σ Q (.bool (g b)) s'') X.xe s') X.xe s := by
  refine thn (wpAny_call (run_fnR (us := [.ref a, u]) (vs := [.ref a, y]) F hr hx I (.cons rfl (.cons ry .nil)) q)) fun z s' hz => ?_
  obtain ⟨w, H', I', rw', b, rfl, q'⟩ := hz
  obtain rfl : z = Value.bool b := rw'
  exact wpAny_truthy_bool ⟨.bl (g b), H', I', rfl, q'⟩
theorem op_inO (hm : Meth X.K C "__contains__" f) (F : FnR X.prog X.w X.K X.mg X.base CX k f sp) (hr : Room k X.A) (hx : Passes CX X E) : OpR X (compareOp .In) (rInO C (fun b => b) sp E) := by
  intro pins s σ H y x u v Q I ry rx h
  obtain ⟨a, dx, fs, rfl, ea, q⟩ := h
  obtain rfl : v = Value.ref a := rx
  obtain ⟨mA, O, _⟩ := ins_get I.hok ea
  obtain ⟨od, J, _⟩ := O.look
  obtain ⟨m, hF⟩ := I.fr
  exact PySem.W.in_K hF I.ok.mod.kin J hm.at_ hm.fn (contO (g := fun b => b) hm F hr hx I ry ea q)
/-- str(x) by an own __str__ -/
def rStrO (C : Addr) (sp : Sp) (E : XK) : List V → Hp → VK → Prop := fun xs H Q => ∃ a dx fs, xs = [.ref a] ∧ H a = some (.ins C dx fs) ∧ sp [.ref a] H (fun v H' => ∃ z, v = .str z ∧ Q (.str z) H') E
theorem call_strO (hm : Meth X.K C "__str__" f) {fd : FuncData} {ps : List Str} (F : FnOk X.prog X.w X.K X.mg X.base CX k f fd ps sp) (hr : Room (k + 2) X.A) (hb : Binds X.K fd ps []) (hx : Passes CX X E) : CallR X (.type "str") (rStrO C sp E) := by
  intro pins s σ H xs us Q I r h
  obtain ⟨a, dx, fs, rfl, ea, q⟩ := h
  obtain ⟨u, rfl, ru⟩ := vals1 r
  obtain rfl : u = Value.ref a := ru
  obtain ⟨mA, O, _⟩ := ins_get I.hok ea
  obtain ⟨od, J, _⟩ := O.look
  have hl := F.len _ _ _ _ q
  refine PySem.W.kso_call hr.in1.in1.units0 I.kIn J hm.at_ hm.fn (wpAny_call (codeAny_mono (F.run X.A.in1.in1 X.stack s H ⟨[.ref a], []⟩ [.ref a] [.ref a] _ E hr.in1.in1 I.env0.in1.in1 (by
    have := hb s [.ref a] I.kIn (by simpa using hl)
    simpa using this) (.cons rfl .nil) q) fun rs s' hq => ?_))
  cases rs with
  | error e => exact hx pins σ H s e s' I hq
  | ok fl =>
    cases fl with
    | ret z =>
      obtain ⟨v, H', I', rv, y, rfl, q'⟩ := I.after hq
      obtain ⟨t, rfl⟩ := rv
      exact ⟨.str y, H', I', ⟨t, rfl⟩, q'⟩
    | next => exact False.elim hq
    | brk => exact False.elim hq
    | cont => exact False.elim hq
end
end Oo
set_option Elab.async false
set_option linter.all false
set_option maxRecDepth 100000
set_option maxHeartbeats 1000000
namespace Oo
open PySem PySem.Spec PyProof.Rows L2 PySem.W
section
variable {prog : Program} {w : World} {A : Around} {E : Value → Shared → Prop} {s : Shared} {K : Frag} {x C L f : Addr} {h₀ : Heap} {m : Str → Option Value} {ox : Obj} {od : Option Obj}
/-- what the operator's two names are at a built-in kind -/
structure KindOp (nm : String) (T : String) : Prop where
  fills : ∃ r, fillsNumberSlot (.type T) nm = pure r
  back : ∃ o, typeLookup (.type T) (dunderR nm) = pure o
theorem binary1_T {nm : String} {T : String} {b : Value} {Q : Value → Shared → Prop} (X : K.In s.heap) (I : InstAt s.heap x ox C od) (hb : Looks (model prog w) s.heap (typeOf b) (.type T)) (hc : selfFirst K C = true)
    (hs : findIn K (.ref C) (PySem.dunder nm) = some (some (.ref f))) (hn : findIn K (.ref C) (dunderR nm) = some none) (hsub : subIn K (.type T) (.ref C) = some false) (hf : isFn K (.ref f) = true) (ko : KindOp nm T)
    (h : wpAny (model prog w) A (call (.ref f) [.ref x, b]) (W.CmpBack Q) E s) : wpAny (model prog w) A (binaryOp1 nm (.ref x) b) (fun z s' => ∃ v, z = some v ∧ Q v s') E s := by
  obtain ⟨cd, hcd, hm⟩ := any_some hc
  have hm2 : ∃ l, cd.mro = .ref C :: l := by
    rcases e : cd.mro with _ | ⟨c0, l⟩
    · rw [e] at hm; exact nomatch hm
    · rw [e, List.head?_cons] at hm
      exact ⟨l, by rw [Option.some.inj (beq_iff_eq.mp hm)]⟩
  obtain ⟨l, hm2⟩ := hm2
  obtain ⟨r, hr⟩ := ko.fills
  obtain ⟨o, ho⟩ := ko.back
  have one : wpAny (model prog w) A (tryMethod (.ref x) (PySem.dunder nm) b) (fun z s' => ∃ v, z = some v ∧ Q v s') E s := by
    unfold tryMethod
    refine wpAny_bind (special_fn X I hs (beq_iff_eq.mp hf) (wpAny_mono h (fun v s' hv => ?_) fun _ _ e => e))
    cases v <;> first | exact hv.elim | exact wpAny_pure ⟨_, rfl, hv⟩
  unfold binaryOp1
  refine wpAny_bind (I.type.here (wpAny_bind (hb.here (wpAny_bind ((fills_K X hcd hm2 hs).here ?_)))))
  have e0 : ((Value.ref C) == (Value.type T)) = false := rfl
  simp only [e0, if_false, Bool.false_eq_true]
  rw [hr]
  refine wpAny_bind (wpAny_pure ?_)
  cases r with
  | false =>
    simp only [Bool.and_false, Bool.false_eq_true, if_false, Bool.false_and]
    refine wpAny_bind (wpAny_pure ?_)
    simp only [Bool.false_eq_true, if_false, if_true]
    refine wpAny_bind (wpAny_mono one (fun z s' hz => ?_) fun _ _ e => e)
    obtain ⟨v, rfl, q⟩ := hz
    exact wpAny_pure ⟨v, rfl, q⟩
  | true =>
    have num : Looks (model prog w) s.heap (numberSlotInPython (.ref C) nm) true := by
      intro A Q E s' k q
      have X' : K.In s'.heap := X.keeps k
      unfold numberSlotInPython
      refine wpAny_bind ((looks_findIn X hs) A _ E s' k ?_)
      refine wpAny_bind (m := calledByName (.ref C) (PySem.dunder nm) (some (.ref f))) (wpAny_pure ?_)
      refine wpAny_bind ((looks_findIn X hn) A _ E s' k ?_)
      refine wpAny_bind (m := calledByName (.ref C) (dunderR nm) none) (wpAny_pure ?_)
      exact wpAny_pure q
    simp only [Bool.and_true, if_true]
    refine wpAny_bind ((looks_subIn X hsub).here ?_)
    simp only [Bool.false_eq_true, if_false, Bool.not_false, if_true]
    refine wpAny_bind (num.here ?_)
    simp only [if_true]
    refine wpAny_bind (m := numberSlotInPython (.type T) nm) (wpAny_pure ?_)
    simp only [Bool.not_false, if_true]
    rw [ho]
    refine wpAny_bind (wpAny_pure ?_)
    refine wpAny_bind (wpAny_mono one (fun z s' hz => ?_) fun _ _ e => e)
    obtain ⟨v, rfl, q⟩ := hz
    exact wpAny_pure ⟨v, rfl, q⟩
theorem binop_T {op : Operator} {T : String} {b : Value} {Q : Value → Shared → Prop} (X : K.In s.heap) (I : InstAt s.heap x ox C od) (hb : Looks (model prog w) s.heap (typeOf b) (.type T)) (hc : selfFirst K C = true)
    (hs : findIn K (.ref C) (PySem.dunder op.info.2) = some (some (.ref f))) (hn : findIn K (.ref C) (dunderR op.info.2) = some none) (hsub : subIn K (.type T) (.ref C) = some false) (hf : isFn K (.ref f) = true) (ko : KindOp op.info.2 T)
    (h : wpAny (model prog w) A (call (.ref f) [.ref x, b]) (W.CmpBack Q) E s) : wpAny (model prog w) A (binaryOp op (.ref x) b) Q E s := by
  unfold binaryOp
  refine wpAny_holding (wpAny_bind (m := binaryOp1 op.info.2 (.ref x) b) (wpAny_mono (binary1_T X I hb hc hs hn hsub hf ko h) (fun z s' hz => ?_) fun _ _ e => e))
  obtain ⟨v, rfl, q⟩ := hz
  exact wpAny_pure q
theorem binary1_S {nm : String} {b : Value} {Q : Value → Shared → Prop} (X : K.In s.heap) (I : InstAt s.heap x ox C od) (hb : Looks (model prog w) s.heap (typeOf b) (.ref C)) (hc : selfFirst K C = true)
    (hs : findIn K (.ref C) (PySem.dunder nm) = some (some (.ref f))) (hf : isFn K (.ref f) = true)
    (h : wpAny (model prog w) A (call (.ref f) [.ref x, b]) (W.CmpBack Q) E s) : wpAny (model prog w) A (binaryOp1 nm (.ref x) b) (fun z s' => ∃ v, z = some v ∧ Q v s') E s := by
  obtain ⟨cd, hcd, hm⟩ := any_some hc
  have hm2 : ∃ l, cd.mro = .ref C :: l := by
    rcases e : cd.mro with _ | ⟨c0, l⟩
    · rw [e] at hm; exact nomatch hm
    · rw [e, List.head?_cons] at hm
      exact ⟨l, by rw [Option.some.inj (beq_iff_eq.mp hm)]⟩
  obtain ⟨l, hm2⟩ := hm2
  have one : wpAny (model prog w) A (tryMethod (.ref x) (PySem.dunder nm) b) (fun z s' => ∃ v, z = some v ∧ Q v s') E s := by
    unfold tryMethod
    refine wpAny_bind (special_fn X I hs (beq_iff_eq.mp hf) (wpAny_mono h (fun v s' hv => ?_) fun _ _ e => e))
    cases v <;> first | exact hv.elim | exact wpAny_pure ⟨_, rfl, hv⟩
  unfold binaryOp1
  refine wpAny_bind (I.type.here (wpAny_bind (hb.here (wpAny_bind ((fills_K X hcd hm2 hs).here ?_)))))
  simp only [beq_self_eq_true, if_true]
  refine wpAny_bind (wpAny_pure ?_)
  simp only [Bool.and_false, Bool.false_eq_true, if_false, Bool.false_and]
  refine wpAny_bind (wpAny_pure ?_)
  simp only [Bool.false_eq_true, if_false, if_true]
  refine wpAny_bind (wpAny_mono one (fun z s' hz => ?_) fun _ _ e => e)
  obtain ⟨v, rfl, q⟩ := hz
  exact wpAny_pure ⟨v, rfl, q⟩
/-- x |= y where the class has no own in-place form -/
theorem inplace_S {op : Operator} {b : Value} {Q : Value → Shared → Prop} (X : K.In s.heap) (I : InstAt s.heap x ox C od) (hb : Looks (model prog w) s.heap (typeOf b) (.ref C)) (hc : selfFirst K C = true)
    (hs : findIn K (.ref C) (PySem.dunder op.info.2) = some (some (.ref f))) (hi : Looks (model prog w) s.heap (fillsInplaceSlot (.ref C) op.info.2 (op == .Add)) false) (hf : isFn K (.ref f) = true)
    (h : wpAny (model prog w) A (call (.ref f) [.ref x, b]) (W.CmpBack Q) E s) : wpAny (model prog w) A (inplaceOp op (.ref x) b) Q E s := by
  unfold inplaceOp
  refine wpAny_holding (wpAny_bind (I.type.here (wpAny_bind (hi.here ?_))))
  simp only [Bool.false_eq_true, if_false]
  refine wpAny_bind (m := binaryOp1 op.info.2 (.ref x) b) (wpAny_mono (binary1_S X I hb hc hs hf h) (fun z s' hz => ?_) fun _ _ e => e)
  obtain ⟨v, rfl, q⟩ := hz
  exact wpAny_pure q
end
end Oo
set_option Elab.async false
set_option linter.all false
set_option maxRecDepth 100000
set_option maxHeartbeats 1000000
namespace Oo
open PySem PySem.Spec PyProof.Rows L2 PySem.W
def kindsT : List String := ["NoneType", "bool", "int", "str", "tuple", "list", "dict"]
def opsN : List String := ["or", "and", "sub", "xor"]
theorem look_some {T : String} {n : Str} (h : (builtinLookup T n).isSome = true) : ∃ o, typeLookup (.type T) n = pure o := by
  rw [typeLookup_type]
  cases e : builtinLookup T n with
  | none => rw [e] at h; exact nomatch h
  | some r => exact ⟨r, rfl⟩
theorem looks_all : (kindsT.all fun t => opsN.all fun n => (builtinLookup t (PySem.dunder n)).isSome && (builtinLookup t (dunderR n)).isSome) = true := by decide +kernel
theorem kindOp {T nm : String} (hT : T ∈ kindsT) (hn : nm ∈ opsN) : KindOp nm T := by
  have h := List.all_eq_true.mp (List.all_eq_true.mp looks_all T hT) nm hn
  obtain ⟨h1, h2⟩ := Bool.and_eq_true_iff.mp h
  obtain ⟨f, hf⟩ := look_some h1
  obtain ⟨r, hr⟩ := look_some h2
  refine ⟨⟨(f.isSome && !isSeqSlot f) || (r.isSome && !isSeqSlot r), ?_⟩, r, hr⟩
  simp only [fillsNumberSlot, hf, hr, pure_bind]
section
variable {M : Model} {h : Heap} {K : Frag} {C : Addr}
theorem noInplace {nm : String} {b : Bool} (X : K.In h) (hmro : ((clsIn K C).any fun cd => decide (cd.mro = [.ref C, .type "object"])) = true) (hn : findIn K (.ref C) (dunderI nm) = some none) (ho : typeLookup (.type "object") (dunderI nm) = pure none) :
    Looks M h (fillsInplaceSlot (.ref C) nm b) false := by
  intro A Q E s k q
  obtain ⟨cd, hc, hm⟩ := any_some hmro
  have hm := of_decide_eq_true hm
  unfold fillsInplaceSlot
  refine wpAny_bind ((looks_clsIn X hc).andThen (f := fun cd => pure cd.mro) .now A _ E s k ?_)
  rw [hm, List.anyM_cons]
  refine wpAny_bind (wpAny_bind ((looks_findIn X hn) A _ E s k ?_))
  refine wpAny_pure ?_
  simp only [Bool.false_eq_true, if_false]
  rw [List.anyM_cons]
  refine wpAny_bind ?_
  rw [ho]
  refine wpAny_bind (wpAny_pure (wpAny_pure ?_))
  simp only [Bool.false_eq_true, if_false, List.anyM_nil]
  exact wpAny_pure q
end
section
variable {X : Cx} {CX : CXT} {k : Nat} {C f : Addr} {sp : Sp} {E : XK}
/-- what the class must say for x op y, y of a built-in kind or of the class itself -/
structure OpC (K : Frag) (C f : Addr) (nm : String) : Prop where
  mt : Meth K C (PySem.dunder nm) f
  sf : selfFirst K C = true
  mro : ((clsIn K C).any fun cd => decide (cd.mro = [.ref C, .type "object"])) = true
  nr : findIn K (.ref C) (dunderR nm) = some none
  ni : findIn K (.ref C) (dunderI nm) = some none
  sub : ∀ T ∈ kindsT, subIn K (.type T) (.ref C) = some false
def okBin (C : Addr) (t : Value) : Prop := t = .ref C ∨ ∃ T ∈ kindsT, t = .type T
/-- x | y -/
theorem op_bin {op : Operator} (c : OpC X.K C f op.info.2) (hn : op.info.2 ∈ opsN) (F : FnR X.prog X.w X.K X.mg X.base CX k f sp) (hr : Room k X.A) (hx : Passes CX X E) : OpR X (binaryOp op) (rOwn2 X.K C (okBin C) sp E) := by
  intro pins s σ H x y v u Q I rx ry h
  obtain ⟨a, dx, fs, t, rfl, ea, ty, ok, q⟩ := h
  rcases ok with rfl | ⟨T, hT, rfl⟩
  · exact op_binO c.mt c.sf F hr hx pins s σ H _ y v u Q I rx ry ⟨a, dx, fs, _, rfl, ea, ty, rfl, q⟩
  · obtain rfl : v = Value.ref a := rx
    obtain ⟨mA, O, _⟩ := ins_get I.hok ea
    obtain ⟨od, J, _⟩ := O.look
    refine binop_T I.kIn J (looks_ty I ry ty) c.sf c.mt.at_ c.nr (c.sub T hT) c.mt.fn (kindOp hT hn) (thn (wpAny_call (run_fnR (us := [.ref a, u]) (vs := [.ref a, y]) F hr hx I (.cons rfl (.cons ry .nil)) q)) fun z s' hz => ?_)
    obtain ⟨w, H', I', rw', q'⟩ := hz
    exact back_of rw' ⟨w, H', I', rw', q'⟩
/-- x |= y, y of the class -/
theorem op_inp {op : Operator} (c : OpC X.K C f op.info.2) (ho : typeLookup (.type "object") (dunderI op.info.2) = pure none) (F : FnR X.prog X.w X.K X.mg X.base CX k f sp) (hr : Room k X.A) (hx : Passes CX X E) : OpR X (inplaceOp op) (rOwn2 X.K C (fun t => t = .ref C) sp E) := by
  intro pins s σ H x y v u Q I rx ry h
  obtain ⟨a, dx, fs, t, rfl, ea, ty, rfl, q⟩ := h
  obtain rfl : v = Value.ref a := rx
  obtain ⟨mA, O, _⟩ := ins_get I.hok ea
  obtain ⟨od, J, _⟩ := O.look
  refine inplace_S I.kIn J (looks_ty I ry ty) c.sf c.mt.at_ (noInplace I.kIn c.mro c.ni ho) c.mt.fn (thn (wpAny_call (run_fnR (us := [.ref a, u]) (vs := [.ref a, y]) F hr hx I (.cons rfl (.cons ry .nil)) q)) fun z s' hz => ?_)
  obtain ⟨w, H', I', rw', q'⟩ := hz
  exact back_of rw' ⟨w, H', I', rw', q'⟩
theorem no_inp {nm : String} (h : nm ∈ opsN) : typeLookup (.type "object") (dunderI nm) = pure none := by
  have z : (opsN.all fun n => builtinLookup "object" (dunderI n) == some none) = true := by decide +kernel
  have := beq_iff_eq.mp (List.all_eq_true.mp z nm h)
  rw [typeLookup_type, this]
end
end Oo
set_option Elab.async false
set_option linter.all false
set_option maxRecDepth 100000
set_option maxHeartbeats 1000000
namespace Oo
open PySem PySem.Spec PyProof.Rows L2 PySem.W
section
variable {prog : Program} {w : World} {A : Around} {E : Value → Shared → Prop} {s : Shared} {K : Frag} {x C L f : Addr} {h₀ : Heap} {m : Str → Option Value} {ox : Obj} {od : Option Obj} {b tb : Value}
open Builtin in
theorem obj_ne {Q : Value → Shared → Prop} (hu : A.in1.units < cLine) (X : K.In s.heap) (I : InstAt s.heap x ox C od) (hm : mroIn K C (.type "object") = some true) (he : findIn K (.ref C) "__eq__" = some (some (.ref f))) (hf : isFn K (.ref f) = true)
    (h : wpAny (model prog w) A.in1 (call (.ref f) [.ref x, b]) (fun v s' => ∃ r, v = .bool r ∧ Q (.bool (!r)) s') E s) : wpAny (model prog w) A (call (.builtin "object.__ne__") [.ref x, b]) Q E s := by
  refine wpAny_call (codeAny_call_builtin PySem.F.cmp_object.ne.plain PySem.F.cmpEntry_ne (check_slot (i := "object.__ne__") (owner := "object") (n := "__ne__") PySem.F.cmpKind_ne PySem.F.cmpSplit_ne (I.type.andThen (looks_mroIn X hm)) (PySem.F.cmpArgs_ne _ _) ?_))
  unfold Builtin.«object.__ne__»
  refine wpAny_bind (m := slotArgs "__ne__" 1 _) (wpAny_pure ?_)
  refine wpAny_bind (m := cRoomFor _ _) (wpAny_cRoomFor hu ?_)
  refine wpAny_bind (m := callSpecialIfBound? (.ref x) (Str.ofString "__eq__") _) (ifBound_K X I he hf (wpAny_mono h (fun r s' hq => ?_) fun _ _ y => y))
  obtain ⟨b1, rfl, q⟩ := hq
  exact wpAny_bind (wpAny_truthy_bool (wpAny_pure q))
theorem ne_K {Q : Value → Shared → Prop} (hu : A.units < cLine) (hu1 : A.in1.units < cLine) (X : K.In s.heap) (I : InstAt s.heap x ox C od) (hb : Looks (model prog w) s.heap (typeOf b) tb) (hn : notFirst K C tb = true)
    (hs : findIn K (.ref C) "__ne__" = some (some (.builtin "object.__ne__"))) (hm : mroIn K C (.type "object") = some true) (he : findIn K (.ref C) "__eq__" = some (some (.ref f))) (hf : isFn K (.ref f) = true)
    (h : wpAny (model prog w) A.in1 (call (.ref f) [.ref x, b]) (fun v s' => ∃ r, v = .bool r ∧ Q (.bool (!r)) s') E s) : wpAny (model prog w) A (richCompare .NotEq (.ref x) b) Q E s := by
  have one : wpAny (model prog w) A (tryCompare (.ref x) "__ne__" b) (fun z s' => ∃ r, z = some (.bool (!r)) ∧ Q (.bool (!r)) s') E s := by
    unfold tryCompare
    simp only [callSpecialIfBound?, bindSpecialIfBound?]
    have body : wpAny (model prog w) A (call (.builtin "object.__ne__") [.ref x, b]) (fun v s' => ∃ r, v = .bool (!r) ∧ Q (.bool (!r)) s') E s :=
      obj_ne hu1 X I hm he hf (wpAny_mono h (fun v s' ⟨r, e, q⟩ => ⟨r, e, r, rfl, q⟩) fun _ _ e => e)
    refine wpAny_bind (wpAny_holding (wpAny_bind (wpAny_bind (wpAny_bind (I.type.here ((looks_findIn X hs).here ?_))))))
    refine wpAny_bind (wpAny_askSetting (wpAny_ite ?_))
    have fin : wpAny (model prog w) A (call (.builtin "object.__ne__") ([.ref x] ++ [b]) >>= fun v => pure (some v)) (fun a s' => wpAny (model prog w) A (match a with | some .notImplemented => pure none | none => pure none | some v => pure (some v)) (fun z s'' => ∃ r, z = some (.bool (!r)) ∧ Q (.bool (!r)) s'') E s') E s :=
      wpAny_bind (wpAny_mono body (fun v s' ⟨r, e, q⟩ => by subst e; exact wpAny_pure (wpAny_pure ⟨r, rfl, q⟩)) fun _ _ e => e)
    split
    · refine wpAny_bind ((Looks.of_pure (PySem.F.cmp_object.ne.bind _)).here (wpAny_pure ?_))
      exact fin
    · refine wpAny_tryCatch (wpAny_bind ((Looks.of_pure (PySem.F.cmp_object.ne.bind _)).here (wpAny_pure ?_)))
      exact fin
  unfold richCompare
  simp only [oneThing_ref]
  refine wpAny_holding (wpAny_bind (wpAny_cRoomFor hu ?_))
  refine wpAny_bind (I.type.here (wpAny_bind (hb.here ?_)))
  split
  · rename_i q
    have e : subIn K tb (.ref C) = some false := by
      rcases Bool.or_eq_true_iff.mp hn with z | z
      · rw [beq_iff_eq.mp z] at q; simp at q
      · exact beq_iff_eq.mp z
    refine wpAny_bind ((looks_subIn X e).here ?_)
    simp only [Bool.false_eq_true, if_false]
    refine wpAny_bind (wpAny_mono one (fun r s' z => ?_) fun _ _ e => e)
    obtain ⟨v, rfl, hq⟩ := z
    exact wpAny_pure hq
  · refine wpAny_bind (wpAny_pure ?_)
    simp only [Bool.false_eq_true, if_false]
    refine wpAny_bind (wpAny_mono one (fun r s' z => ?_) fun _ _ e => e)
    obtain ⟨v, rfl, hq⟩ := z
    exact wpAny_pure hq
end
section
variable {X : Cx} {CX : CXT} {k : Nat} {C f : Addr} {sp : Sp} {E : XK}
/-- x != y by the own == -/
def rNeO (K : Frag) (C : Addr) (sp : Sp) (E : XK) : R2 := fun x y H Q => ∃ a dx fs t, x = .ref a ∧ H a = some (.ins C dx fs) ∧ TyX K H y t ∧ notFirst K C t = true ∧ sp [.ref a, y] H (fun v H' => ∃ r, v = .bl r ∧ Q (.bl (!r)) H') E
theorem op_neO {fd : FuncData} {ps : List Str} (hm : Meth X.K C "__eq__" f) (hn : findIn X.K (.ref C) "__ne__" = some (some (.builtin "object.__ne__"))) (ho : mroIn X.K C (.type "object") = some true)
    (F : FnOk X.prog X.w X.K X.mg X.base CX k f fd ps sp) (hb : Binds X.K fd ps []) (hr : Room (k + 1) X.A) (hx : Passes CX X E) : OpR X (compareOp .NotEq) (rNeO X.K C sp E) := by
  intro pins s σ H x y v u Q I rx ry h
  obtain ⟨a, dx, fs, t, rfl, ea, ty, nf, q⟩ := h
  obtain rfl : v = Value.ref a := rx
  obtain ⟨mA, O, _⟩ := ins_get I.hok ea
  obtain ⟨od, J, _⟩ := O.look
  have hl := F.len _ _ _ _ q
  show wpAny _ _ (richCompare .NotEq (.ref a) u) _ _ s
  refine ne_K hr.units0 hr.in1.units0 I.kIn J (looks_ty I ry ty) nf hn ho hm.at_ hm.fn (wpAny_call (codeAny_mono (F.run X.A.in1 X.stack s H ⟨[.ref a, u], []⟩ [.ref a, u] [.ref a, y] _ E hr.in1 I.env0.in1 (by
    have := hb s [.ref a, u] I.kIn (by simpa using hl)
    simpa using this) (.cons rfl (.cons ry .nil)) q) fun rs s' hq => ?_))
  cases rs with
  | error e => exact hx pins σ H s e s' I hq
  | ok fl =>
    cases fl with
    | ret z =>
      obtain ⟨v, H', I', rv, r, rfl, q'⟩ := I.after hq
      obtain rfl : z = Value.bool r := rv
      exact ⟨r, rfl, .bl (!r), H', I', rfl, q'⟩
    | next => exact False.elim hq
    | brk => exact False.elim hq
    | cont => exact False.elim hq
end
end Oo
set_option Elab.async false
set_option linter.all false
set_option maxRecDepth 100000
set_option maxHeartbeats 1000000
/-! x[i], x[lo:hi], x[lo:hi:st] by an own __getitem__; the slice as an object of its own. -/
namespace Oo
open PySem PySem.Spec PyProof.Rows L2 PySem.W
/-- the slice object at a: its three parts -/
def SlcO (a : Addr) (lo hi st : Option Int) : HO := .ext fun h => ∃ vl vu vs, h.IsSliceOf a vl vu vs ∧ IsPart vl lo ∧ IsPart vu hi ∧ IsPart vs st
theorem slc_ok {P : Program} {w : World} {H : Hp} {h : Heap} {a : Addr} {lo hi st : Option Int} {vl vu vs : Value} (e : h.IsSliceOf a vl vu vs) (p1 : IsPart vl lo) (p2 : IsPart vu hi) (p3 : IsPart vs st) : ObjOk P w H h a (SlcO a lo hi st) := by
  obtain ⟨o, e1, e2, e3⟩ := e
  exact ⟨⟨vl, vu, vs, ⟨o, e1, e2, e3⟩, p1, p2, p3⟩, ⟨o, e1⟩, fun _ _ ⟨vl, vu, vs, ⟨u, b1, b2, b3⟩, c1, c2, c3⟩ k => ⟨vl, vu, vs, ⟨u, k _ b1, b2, b3⟩, c1, c2, c3⟩⟩
theorem FnOk.r0 {P : Program} {w : World} {K : PySem.W.Frag} {mg : Str → Option Value} {base : Heap} {CX : CXT} {k : Nat} {f : Addr} {fd : FuncData} {ps : List Str} {sp : Sp} (F : FnOk P w K mg base CX k f fd ps sp) (hb : Binds K fd ps []) : FnR P w K mg base CX k f sp :=
  (FnOk.raw (ds := []) (dvs := []) F hb .nil).imp fun vs H Q E h => by rw [List.append_nil]; exact h
section
variable {X : Cx} {CX : CXT} {k : Nat} {C f : Addr} {sp : Sp} {E : XK} {pins : List (Addr × Obj)} {σ : L2.St} {H : Hp} {s : Shared}
/-- the own __getitem__ called at the object a with y -/
def rGetO (C : Addr) (sp : Sp) (E : XK) : R2 := fun x y H Q => ∃ a dx fs, x = .ref a ∧ H a = some (.ins C dx fs) ∧ sp [.ref a, y] H Q E
theorem run_at {A : Around} (F : FnR X.prog X.w X.K X.mg X.base CX k f sp) (hr : Room k A) (hx : Passes CX X E) (e0 : Env0 X.prog X.w X.K X.mg X.base A X.stack s H) (I : Inv X pins σ H s) {us : List Value} {vs : List V} {Q : VK} (r : Vals vs us) (q : sp vs H Q E) :
    wpAny (model X.prog X.w) A (call (.ref f) us) (EP X pins σ Q) X.xe s := by
  refine wpAny_call (codeAny_mono (F A X.stack s H us vs Q E hr e0 r q) fun rs s' hq => ?_)
  cases rs with
  | error e => exact hx pins σ H s e s' I hq
  | ok fl =>
    cases fl with
    | ret z => exact I.after hq
    | next => exact False.elim hq
    | brk => exact False.elim hq
    | cont => exact False.elim hq
theorem sub_at {value slice : Expr} (hm : Meth X.K C "__getitem__" f) (hf : fnIn X.K f = true) (F : FnR X.prog X.w X.K X.mg X.base CX k f sp) (hr : Room (k + 1) X.A) (hx : Passes CX X E) {a dx : Addr} {fs : List (Str × V)} {y : V} {u : Value} {Q : VK} (I : Inv X pins σ H s) (ry : RelV y u)
    (ea : H a = some (.ins C dx fs)) (q : sp [.ref a, y] H Q E) (hsl : subscripted slice true (.ref a) u = runValue (.builtin "lifetime.subscript" ⟨[.ref a, u], []⟩) := by with_unfolding_all rfl) :
    wpAny (model X.prog X.w) X.A (subscriptTail value slice (.ref a) u) (EP X pins σ Q) X.xe s := by
  obtain ⟨mA, O, _⟩ := ins_get I.hok ea
  obtain ⟨od, J, _⟩ := O.look
  obtain ⟨m, hF⟩ := I.fr
  exact sub_K hF I.ok.mod.kin J hm.at_ hf hm.fn (run_at F hr.in1 hx I.env0.in1 I (us := [.ref a, u]) (vs := [.ref a, y]) (.cons rfl (.cons ry .nil)) q) hsl
theorem slice_at {value slice : Expr} (hm : Meth X.K C "__getitem__" f) (hf : fnIn X.K f = true) (hq : noSeq X.K C = true) (F : FnR X.prog X.w X.K X.mg X.base CX k f sp) (hr : Room (k + 1) X.A) (hx : Passes CX X E) {a dx : Addr} {fs : List (Str × V)} {y : V} {u : Value} {Q : VK} (I : Inv X pins σ H s) (ry : RelV y u)
    (ea : H a = some (.ins C dx fs)) (q : sp [.ref a, y] H Q E) (hsl : subscripted slice true (.ref a) u = operate [u, .ref a] (getItem (.ref a) u) := by with_unfolding_all rfl) :
    wpAny (model X.prog X.w) X.A (subscriptTail value slice (.ref a) u) (EP X pins σ Q) X.xe s := by
  obtain ⟨mA, O, _⟩ := ins_get I.hok ea
  obtain ⟨od, J, _⟩ := O.look
  obtain ⟨m, hF⟩ := I.fr
  have X₀ : X.K.In s.heap := I.kIn
  unfold fnIn at hf
  split at hf
  · rename_i e
    unfold subscriptTail getitemInPython
    refine wpAny_bind (wpAny_bind (wpAny_bind (J.type.here ((looks_findIn X₀ hm.at_).here ?_))))
    dsimp only
    refine wpAny_bind (wpAny_load (X₀ _ _ e) (wpAny_pure ?_))
    dsimp only
    rw [hsl]
    refine wpAny_bind (wpAny_operateT (getItem_K hF I.ok.mod.kin J hq hm.at_ hm.fn (thn (run_at F (hr.mono (by omega)) hx I.env0 I (us := [.ref a, u]) (vs := [.ref a, y]) (.cons rfl (.cons ry .nil)) q) fun z s' hz => ?_)))
    exact wpAny_bind (wpAny_letTemporaryGo (wpAny_pure hz))
  · cases hf
section
variable {a b : Expr} {ta tb : TE} {lo hi st : Option Expr} {tl th tt : TO} {pos p2 : Pos}
/-- x[i] -/
theorem pe_getO (hm : Meth X.K C "__getitem__" f) (hf : fnIn X.K f = true) (F : FnR X.prog X.w X.K X.mg X.base CX k f sp) (hr : Room (k + 1) X.A) (hx : Passes CX X E) (ha : PE X a ta) (hb : PE X b tb)
    (hsl : ∀ o i, subscripted b true o i = runValue (.builtin "lifetime.subscript" ⟨[o, i], []⟩) := by intro _ _; rfl) : PE X (.Subscript a b pos) (tOp (rGetO C sp E) ta tb) := by
  refine ⟨fun pins s σ H Q I h => ?_⟩
  refine Subscript_ (binT ha hb I h fun v u s2 x y H2 I2 rx ry q => ?_)
  obtain ⟨p, dx, fs, rfl, ea, q⟩ := q
  obtain rfl : v = Value.ref p := rx
  exact sub_at hm hf F hr hx I2 ry ea q (hsl _ _)
/-- x[lo:hi], x[lo:hi:st] -/
def tSlcO (C : Addr) (sp : Sp) (E : XK) (ta : TE) (tl th tt : TO) : TE := fun σ H Q => ta σ H fun x H1 => tl σ H1 fun l H2 => th σ H2 fun u H3 => tt σ H3 fun t H4 => ∀ p, H4 p = none → rGetO C sp E x (.ref p) (upd H4 p (SlcO p l u t)) Q
theorem parts_at {pins : List (Addr × Obj)} {s : Shared} {σ : L2.St} {H : Hp} {R : V → Hp → Prop} {x : V} {W : Value → Shared → Prop} (hl : PO X lo tl) (hu : PO X hi th) (ht : PO X st tt) (I : Inv X pins σ H s)
    (h : tl σ H fun l H2 => th σ H2 fun u H3 => tt σ H3 fun t H4 => ∀ p, H4 p = none → R (.ref p) (upd H4 p (SlcO p l u t))) (hw : ∀ p H' s', Inv X pins σ H' s' → R (.ref p) H' → W (.ref p) s') :
    wpAny (model X.prog X.w) X.A (eval (.Slice lo hi st p2) X.env) W X.xe s := by
  refine wpAny_Slice (thn (hl.run pins s σ H _ I h) fun vl s2 ⟨l, H2, I2, pl, q2⟩ => thn (hu.run pins s2 σ H2 _ I2 q2) fun vu s3 ⟨u, H3, I3, pu, q3⟩ => thn (ht.run pins s3 σ H3 _ I3 q3) fun vs s4 ⟨t, H4, I4, ps, q4⟩ => ?_)
  have J := I4.laid (t' := s4.toks) (o := SlcO s4.heap.objs.size l u t) (fun b ob q => Heap.get?_push_of_some _ q) (Nat.le_refl _) (slc_ok (Heap.IsSliceOf.new s4.heap vl vu vs) pl pu ps)
  exact hw _ _ _ J (q4 _ (I4.hok.fresh (Nat.le_refl _)))
theorem pe_slcO (hm : Meth X.K C "__getitem__" f) (hf : fnIn X.K f = true) (hq : noSeq X.K C = true) (F : FnR X.prog X.w X.K X.mg X.base CX k f sp) (hr : Room (k + 1) X.A) (hx : Passes CX X E) (ha : PE X a ta) (hl : PO X lo tl) (hu : PO X hi th) :
    PE X (.Subscript a (.Slice lo hi none p2) pos) (tSlcO C sp E ta tl th tNoPart) := by
  refine ⟨fun pins s σ H Q I h => ?_⟩
  refine Subscript_ (thn (ha.run pins s σ H _ I h) fun v s1 ⟨x, H1, I1, rx, q⟩ => ?_)
  refine parts_at (x := x) (R := fun y H' => rGetO C sp E x y H' Q) hl hu po_none I1 q fun p H' s' J q' => ?_
  obtain ⟨o, dx, fs, rfl, ea, q'⟩ := q'
  obtain rfl : v = Value.ref o := rx
  exact slice_at hm hf hq F hr hx J (y := .ref p) rfl ea q'
theorem pe_slcO3 {e3 : Expr} (hm : Meth X.K C "__getitem__" f) (hf : fnIn X.K f = true) (F : FnR X.prog X.w X.K X.mg X.base CX k f sp) (hr : Room (k + 1) X.A) (hx : Passes CX X E) (ha : PE X a ta) (hl : PO X lo tl) (hu : PO X hi th) (ht : PO X (some e3) tt) :
    PE X (.Subscript a (.Slice lo hi (some e3) p2) pos) (tSlcO C sp E ta tl th tt) := by
  refine ⟨fun pins s σ H Q I h => ?_⟩
  refine Subscript_ (thn (ha.run pins s σ H _ I h) fun v s1 ⟨x, H1, I1, rx, q⟩ => ?_)
  refine parts_at (x := x) (R := fun y H' => rGetO C sp E x y H' Q) hl hu ht I1 q fun p H' s' J q' => ?_
  obtain ⟨o, dx, fs, rfl, ea, q'⟩ := q'
  obtain rfl : v = Value.ref o := rx
  exact sub_at hm hf F hr hx J (y := .ref p) rfl ea q'
end
end
end Oo
set_option Elab.async false
set_option linter.all false
set_option maxRecDepth 100000
set_option maxHeartbeats 1000000
/-! name = {k: v for ..} on one line, the name a local. -/
namespace Oo
open PySem PySem.Spec PyProof.Rows L2
section
variable {X : Cx}
theorem sw_dict {kx vx : Expr} {gs : List Comprehension} {scope : Scope} {pos py : Pos} {y : Str} {l : Nat} {env : Env} (a : env.scope.kind = .function) (b : env.scope.names.lookup y = some .local) (c : (py.line == pos.line) = true)
    (d : (scope.names.any fun (n, k) => n == y && (k == .local || k == .cell)) = false) : swapsWith (.DictComp kx vx gs scope pos) (some (.Name y py)) l env = pure true := by
  have e1 : env.kindOf y = some .local := b
  have e2 : env.blockKind = .function := by unfold Env.blockKind; rw [a]; rfl
  unfold swapsWith
  simp only [e2, e1, d, Expr.pos, c]
  rfl
theorem ps_setDc {i : Nat} {y : Str} {py : Pos} {kx vx tg iter : Expr} {ifs : List Expr} {scope : Scope} {own : List (Str × Nat)} {pos spos : Pos} {wi : TI} {g : TG} {tt : TT} {tk tv : TE} (hc : X.calm = true) (hN : X.N.Nodup) (hy : X.N[i]? = some y) (hyl : X.env.scope.names.lookup y = some .local)
    (hsw : swapsWith (.DictComp kx vx [⟨tg, iter, ifs, 0⟩] scope pos) (some (.Name y py)) spos.line X.env = pure true) (hi : PI X tg iter wi) (ok : BlkOk X.N X.env.scope scope own)
    (hg : ∀ (s : Shared) (H : Hp) (C : Addr) (cl : List (Str × Addr)) (fp : List Addr), PG (X.blk s H scope (compEnvC scope cl C X.env) fp) tg g) (ht : ∀ (s : Shared) (H : Hp) (C : Addr) (cl : List (Str × Addr)) (fp : List Addr), PTs (X.blk s H scope (compEnvC scope cl C X.env) fp) ifs tt)
    (hk : ∀ (s : Shared) (H : Hp) (C : Addr) (cl : List (Str × Addr)) (fp : List Addr), PE (X.blk s H scope (compEnvC scope cl C X.env) fp) kx tk)
    (he : ∀ (s : Shared) (H : Hp) (C : Addr) (cl : List (Str × Addr)) (fp : List Addr), PE (X.blk s H scope (compEnvC scope cl C X.env) fp) vx tv) (hs : ∀ x, foldedSetIterable iter X.env x = pure x := by intro _; rfl) :
    PS X (.Assign [.Name y py] (.DictComp kx vx [⟨tg, iter, ifs, 0⟩] scope pos) spos) (tAsg (tDc wi g tt tk tv (own.map (·.2))) (gName i)) := by
  refine ⟨fun pins s σ H D I h => ?_⟩
  rw [exec_Assign_Name_used _ _ _ _ hsw]
  refine wpAny_bind (wpAny_standAt (wpAny_bind ?_))
  have h : tDc wi g tt tk tv (own.map (·.2)) σ H (fun x H1 => gName i x σ H1 D.nx) := h
  show wpAny _ X.A (do let _ ← comprehension (.DictComp kx vx [⟨tg, iter, ifs, 0⟩] scope pos) scope X.env (firstIterPos [⟨tg, iter, ifs, 0⟩] pos) newDict false (eval iter X.env) (some (assign (.Name y py) X.env))) _ _ s
  refine wpAny_bind (thn (dc_core (Qf := fun _ s' => SP X pins D .next s') hc hN I hi ok hg ht hk he hs h fun L C s' m H' J q hn fp => ?_) fun _ s' z => wpAny_pure (wpAny_pure z))
  show wpAny _ _ (assign (.Name y py) X.env (.ref L)) _ _ _
  obtain ⟨g0, g1, g2, g3, g4, g5⟩ := fp
  refine wpAny_assign_Name (store_ok2 (v := V.ref L) J hN hy (.inl hyl) rfl (fun s2 J2 ⟨a, sb, ha⟩ => ?_) (.inr hyl))
  have ne : C ≠ a := ha.elim (fun z => z ▸ g1) fun z e => g4 y a z e.symm
  refine ⟨m, hn.sameBut sb ne, fun h3 sb3 => ?_⟩
  exact ⟨_, H', J2.turned (t' := s2.toks) (fun b o hb e => (sb3.2 b hb).trans e) g0 g1 g3 g4 g5, q⟩
end
end Oo
set_option Elab.async false
set_option linter.all false
set_option maxRecDepth 100000
set_option maxHeartbeats 1000000
namespace K7
open PySem PySem.Spec PyProof.Rows L2 RV EV He EF EI
abbrev lAd (K : PySem.W.Frag) (m : Str) : Addr := ma K (gO K) m
abbrev scLi_N : List Str := ["self", "fixes", "fix", "unlike"]
theorem scLi : FnScope scLi_N ["self", "fixes"] (defScope (lSt 1)) := ⟨rfl, rfl, rfl, by decide +kernel, rfl, by decide +kernel, by decide +kernel⟩
section
variable {P : Program} {w : World} {K : PySem.W.Frag} {mg : Str → Option Value} {base : Heap}
theorem cread (T : KF P w K mg base) : ClX.CRead K (gO K) (.type "type") := by
  obtain ⟨_, h⟩ := ba T.l4
  obtain ⟨h1, h⟩ := ba h
  obtain ⟨h2, _⟩ := ba h
  exact ⟨h1, eqO_ok h2⟩
theorem most (T : KF P w K mg base) : ∃ t, ClX.CVal K (gO K) (.type "type") "MOST" (.int 8) (.int 8 t) := by
  obtain ⟨h, _⟩ := ba T.l4
  unfold mostB at h
  split at h
  · rename_i n t e
    have := of_decide_eq_true h
    subst this
    exact ⟨t, e, ⟨t, rfl⟩⟩
  · cases h
/-- what is no fix -/
def NoFix (K : PySem.W.Frag) (H : Hp) (v : V) : Prop := (∃ x, v = .str x ∧ x.length ≤ 1000000 ∧ isFixB x = false) ∨ ∃ t, TyX K H v t ∧ PySem.W.kitOne K t (.type "str") = some false
theorem fix_len {x : Str} (h : isFixB x = true) : x.length ≤ 8 := by
  unfold isFixB at h
  obtain ⟨_, h⟩ := ba h
  obtain ⟨h, _⟩ := ba h
  have := of_decide_eq_true h
  omega
/-- names that are looked at one by one -/
def Chk (K : PySem.W.Frag) (xs : List V) (H : Hp) (E : XK) (R : List Str → Hp → Prop) : Prop :=
  (∃ ss : List Str, xs = ss.map V.str ∧ (∀ x ∈ ss, isFixB x = true) ∧ ∀ H', Same H H' → R ss H') ∨
  (∃ (ss : List Str) (v : V) (rest : List V), xs = ss.map V.str ++ v :: rest ∧ (∀ x ∈ ss, isFixB x = true) ∧ ∀ H', Same H H' → NoFix K H' v ∧ Bad1 (ga K "BadFix") "value" H' E v)
def tCk (K : PySem.W.Frag) (E : XK) : TS := tFor (iTup K (tVar 1)) (gName 2) (tIfS (tNot (tB (tCall (spFix K) [] E0 (tCons (tVar 2) tNil)))) (tRaise1 (ga K "BadFix") "value" (tVar 2) fun cls d x H => E cls d H) tNext)
theorem sp_fix {H : Hp} {v : V} {E : XK} {Q : VK} (h : (∃ x, v = .str x ∧ isFixB x = true) ∨ NoFix K H v) (q : ∀ H', Same H H' → ∀ b, b = (match v with | .str x => isFixB x | _ => false) → Q (.bl b) H') : spFix K [v] H Q E := by
  rcases h with ⟨x, rfl, hx⟩ | ⟨x, rfl, hz, hx⟩ | ⟨t, ht, hk⟩
  · exact ⟨_, rfl, .inl ⟨x, rfl, Nat.le_trans (fix_len hx) (by decide), fun H' s' => q H' s' _ rfl⟩⟩
  · exact ⟨_, rfl, .inl ⟨x, rfl, hz, fun H' s' => q H' s' _ rfl⟩⟩
  · refine ⟨_, rfl, .inr ⟨t, ht, hk, q H (fun _ _ e => e) _ ?_⟩⟩
    cases v with
    | str x =>
      have e : t = .type "str" := by
        cases ht with
        | base h => cases h; rfl
      subst e
      exact absurd hk (by rw [kit_ty (by decide +kernel : kitB "str" "str" = some true)]; intro z; cases z)
    | _ => rfl
theorem ck_read {s0 : V} {T : Addr} {xs : List V} {H : Hp} {E : XK} {D : Ends} (sq : ∀ H', Same H H' → SqT K H' T xs) (c : Chk K xs H E fun ss H' => ∀ o, D.nx [some s0, some (.ref T), o, none] H') : tCk K E D [some s0, some (.ref T), none, none] H := by
  have one : ∀ (ss : List Str) (n : Nat), (∀ x ∈ ss, isFixB x = true) → ∀ i x (H1 : Hp) (R : Hp → Prop) (σ : L2.St), xs[i]? = some x → i < ss.length → (∀ j, j < ss.length → xs[j]? = (ss[j]?).map V.str) → (∀ H', Same H1 H' → R H') → ∀ D' : Ends, (∀ σ' H', R H' → σ' = σ → D'.nx σ' H') → σ[2]? = some (some x) →
      tIfS (tNot (tB (tCall (spFix K) [] E0 (tCons (tVar 2) tNil)))) (tRaise1 (ga K "BadFix") "value" (tVar 2) fun cls d x H => E cls d H) tNext D' σ H1 := by
    intro ss n hf i x H1 R σ hx hi hj hR D' hD hs
    rw [hj i hi] at hx
    have hz : ss[i]? = some ss[i] := List.getElem?_eq_getElem hi
    rw [hz] at hx
    obtain rfl := Option.some.inj hx
    have hfx := hf _ (List.getElem_mem hi)
    refine ⟨_, hs, ?_⟩
    unfold tNil
    show spFix K [V.str ss[i]] H1 _ _
    refine sp_fix (.inl ⟨_, rfl, hfx⟩) fun H' s' b hb => ⟨b, rfl, if_negB ?_ (hD _ _ (hR H' s') rfl)⟩
    rw [hb]
    show (!isFixB ss[i]) = false
    rw [hfx]
    rfl
  rcases c with ⟨ss, rfl, hf, k⟩ | ⟨ss, v, rest, rfl, hf, k⟩
  · refine ⟨_, rfl, T, rfl, ⟨_, sq H fun _ _ e => e⟩, for_it (walk_tup (xs := ss.map V.str)) (fun i σ' H' => (∃ o, σ' = [some s0, some (.ref T), o, none]) ∧ Same H H') ⟨⟨_, rfl⟩, fun _ _ e => e⟩ (fun i σ' H' _ p => sq H' p.2) ?_ ?_⟩
    · rintro i x σ' H1 H2 hi ⟨⟨o, rfl⟩, s1⟩ ⟨rfl, hx⟩
      have hl : i < ss.length := by rw [List.length_map] at hi; exact hi
      exact one ss 0 hf i x _ (fun H' => Same H H') _ hx hl (fun j _ => by rw [List.getElem?_map]) (fun H' s' => s1.trans s') _ (fun σ2 H2 r e => ⟨⟨some x, e⟩, r⟩) rfl
    · rintro σ' H' ⟨⟨o, rfl⟩, s1⟩
      exact k H' s1 o
  · refine ⟨_, rfl, T, rfl, ⟨_, sq H fun _ _ e => e⟩, for_it (walk_tup (xs := ss.map V.str ++ v :: rest)) (fun i σ' H' => (∃ o, σ' = [some s0, some (.ref T), o, none]) ∧ Same H H' ∧ i ≤ ss.length) ⟨⟨_, rfl⟩, fun _ _ e => e, Nat.zero_le _⟩ (fun i σ' H' _ p => sq H' p.2.1) ?_ ?_⟩
    · rintro i x σ' H1 H2 hi ⟨⟨o, rfl⟩, s1, hle⟩ ⟨rfl, hx⟩
      by_cases hl : i < ss.length
      · refine one ss 0 hf i x _ (fun H' => Same H H') _ hx hl (fun j hj => ?_) (fun H' s' => s1.trans s') _ (fun σ2 H2 r e => ⟨⟨some x, e⟩, r, hl⟩) rfl
        rw [List.getElem?_append_left (by rw [List.length_map]; exact hj), List.getElem?_map]
      · have e : i = ss.length := by omega
        subst e
        rw [List.getElem?_append_right (by rw [List.length_map]; exact Nat.le_refl _), List.length_map, Nat.sub_self] at hx
        obtain rfl : v = x := Option.some.inj hx
        obtain ⟨nf, bd⟩ := k _ s1
        refine ⟨_, rfl, ?_⟩
        unfold tNil
        show spFix K [v] _ _ _
        refine sp_fix (.inr nf) fun H' s' b hb => ⟨b, rfl, if_posB ?_ ⟨_, rfl, mkb1 (k H' (s1.trans s')).2⟩⟩
        rw [hb]
        rcases nf with ⟨x, rfl, _, h⟩ | ⟨t, ht, hk⟩
        · show (!isFixB x) = true
          rw [h]; rfl
        · cases v with
          | str x =>
            have e : t = .type "str" := by
              cases ht with
              | base h => cases h; rfl
            subst e
            exact absurd hk (by rw [kit_ty (by decide +kernel : kitB "str" "str" = some true)]; intro z; cases z)
          | _ => rfl
    · rintro σ' H' ⟨_, _, hle⟩
      rw [List.length_append, List.length_map, List.length_cons] at hle
      omega
end
end K7
set_option Elab.async false
set_option linter.all false
set_option maxRecDepth 100000
set_option maxHeartbeats 1000000
/-! Lot.__init__, further: the dict of unlike names, and what is kept. -/
namespace K7
open PySem PySem.Spec PyProof.Rows L2 RV EV He EF EI
def firstsA : List Str → List Str → List Str
  | acc, [] => acc
  | acc, x :: r => firstsA (if x ∈ acc then acc else acc ++ [x]) r
abbrev firsts (ss : List Str) : List Str := firstsA [] ss
theorem firstsA_snoc {x : Str} : ∀ (l acc : List Str), firstsA acc (l ++ [x]) = if x ∈ firstsA acc l then firstsA acc l else firstsA acc l ++ [x]
  | [], _ => rfl
  | y :: r, acc => firstsA_snoc r _
theorem mem_firstsA {a : Str} : ∀ (l acc : List Str), a ∈ firstsA acc l ↔ a ∈ acc ∨ a ∈ l
  | [], acc => by simp [firstsA]
  | x :: r, acc => by
    show a ∈ firstsA _ r ↔ _
    rw [mem_firstsA r]
    by_cases h : x ∈ acc
    · rw [if_pos h, List.mem_cons]
      constructor
      · rintro (h1 | h1)
        · exact .inl h1
        · exact .inr (.inr h1)
      · rintro (h1 | rfl | h1)
        · exact .inl h1
        · exact .inl h
        · exact .inr h1
    · rw [if_neg h, List.mem_append, List.mem_singleton, List.mem_cons, or_assoc]
theorem nodup_firstsA : ∀ (l acc : List Str), acc.Nodup → (firstsA acc l).Nodup
  | [], acc, h => h
  | x :: r, acc, h => by
    refine nodup_firstsA r _ ?_
    by_cases e : x ∈ acc
    · rw [if_pos e]; exact h
    · rw [if_neg e]
      refine List.nodup_append.mpr ⟨h, by simp, ?_⟩
      intro a ha b hb
      rw [List.mem_singleton.mp hb]
      exact fun z => e (z ▸ ha)
theorem len_firstsA : ∀ (l acc : List Str), (firstsA acc l).length ≤ acc.length + l.length
  | [], acc => Nat.le_refl _
  | x :: r, acc => by
    have := len_firstsA r (if x ∈ acc then acc else acc ++ [x])
    show (firstsA _ r).length ≤ _
    have h2 : (if x ∈ acc then acc else acc ++ [x]).length ≤ acc.length + 1 := by
      split
      · omega
      · simp
    rw [List.length_cons]
    omega
theorem mem_firsts {a : Str} {l : List Str} : a ∈ firsts l ↔ a ∈ l := by rw [mem_firstsA]; simp
theorem nodup_firsts {l : List Str} : (firsts l).Nodup := nodup_firstsA l [] List.nodup_nil
theorem lined_firsts {l : List Str} : lined (firsts l) = lined l := lined_eq fun _ => mem_firsts
theorem lined_perm {l : List Str} (h : l.Nodup) : (lined l).Perm l := (List.perm_ext_iff_of_nodup (asc_nodup (asc_lined l)) h).mpr fun _ => mem_lined
theorem len_firsts {l : List Str} : (firsts l).length = (lined l).length := by
  rw [← lined_firsts]
  exact (lined_perm nodup_firsts).length_eq.symm
def kvsOf (l : List Str) : List (Key × V) := l.map fun x => (Sum.inr x, V.bl true)
theorem put_firsts (acc : List Str) (x : Str) : putK (kvsOf acc) (Sum.inr x) (V.bl true) = kvsOf (if x ∈ acc then acc else acc ++ [x]) := by
  unfold putK
  have e : ((kvsOf acc).any fun kv => decide (kv.1 = Sum.inr x)) = decide (x ∈ acc) := by
    unfold kvsOf
    induction acc with
    | nil => rfl
    | cons y r ih =>
      rw [List.map_cons, List.any_cons, ih]
      by_cases h : x = y
      · subst h; simp
      · have h2 : y ≠ x := fun z => h z.symm
        have h3 : (Sum.inr y : Key) ≠ Sum.inr x := fun z => h2 (Sum.inr.inj z)
        simp [h, h3]
  rw [e]
  by_cases h : x ∈ acc
  · rw [if_pos (decide_eq_true h), if_pos h]
    unfold kvsOf
    rw [List.map_map]
    refine List.map_congr_left fun y _ => ?_
    show (if (Sum.inr y : Key) = Sum.inr x then _ else _) = _
    split <;> rfl
  · rw [if_neg (by rw [decide_eq_false h]; exact Bool.false_ne_true), if_neg h]
    unfold kvsOf
    rw [List.map_append]
    rfl
section
variable {P : Program} {w : World} {K : PySem.W.Frag} {mg : Str → Option Value} {base : Heap}
def tDd (K : PySem.W.Frag) : TS := tAsg (tDc (iTup K (tVar 1)) (gName 2) tYes (tVar 2) (tC (V.bl true)) [2]) (gName 3)
theorem dd_read {s0 : V} {T : Addr} {o : Option V} {ss : List Str} {H : Hp} {D : Ends} (sq : ∀ H', Same H H' → SqT K H' T (ss.map V.str)) (hz : ss.length ≤ 1000) (k : ∀ d H', H d = none → Same H H' → H' d = some (.dK (kvsOf (firsts ss))) → D.nx [some s0, some (.ref T), o, some (.ref d)] H') :
    tDd K D [some s0, some (.ref T), o, none] H := by
  refine ⟨_, rfl, T, rfl, ⟨_, sq H fun _ _ e => e⟩, fun d nd => ?_⟩
  refine dc_tup (xs := ss.map V.str) (fun i H' => Same H H' ∧ H' d = some (.dK (kvsOf (firsts (ss.take i))))) ⟨fun c u e => by rw [upd_ne (ne_of_none e nd)]; exact e, upd_same⟩ (fun i H' _ p => sq H' p.1) ?_ ?_
  · rintro i x H' hx ⟨s1, hd⟩
    rw [List.getElem?_map] at hx
    cases e : ss[i]? with
    | none => rw [e] at hx; exact nomatch hx
    | some z =>
      rw [e] at hx
      obtain rfl : V.str z = x := Option.some.inj hx
      obtain ⟨hl, hv⟩ := List.getElem?_eq_some_iff.mp e
      refine ⟨rfl, yesB ?_⟩
      refine ⟨_, rfl, kvsOf (firsts (ss.take i)), Sum.inr z, rfl, hd, ?_, fun c u e => ?_, ?_⟩
      · have : (firsts (ss.take i)).length ≤ _ := len_firstsA (ss.take i) []
        unfold kvsOf
        rw [List.length_map, sizeLine_eq]
        rw [List.length_take, List.length_nil] at this
        omega
      · rw [upd_ne (ne_of_none e nd)]
        exact s1 c u e
      · rw [upd_same, put_firsts]
        have more : ss.take (i + 1) = ss.take i ++ [z] := by rw [← hv]; exact List.take_succ_eq_append_getElem hl
        rw [more]
        show _ = some (HO.dK (kvsOf (firstsA [] _)))
        rw [firstsA_snoc]
  · rintro H' ⟨s1, hd⟩
    rw [List.length_map, List.take_of_length_le (Nat.le_refl _)] at hd
    exact k d H' nd s1 hd
abbrev rTupL (K : PySem.W.Frag) : List V → Hp → VK → Prop := fun xs H Q => ∃ p ys, xs = [V.ref p] ∧ ((SqL K H p ys ∧ ∀ (l : Addr), H l = none → Q (V.ref l) (upd H l (HO.tup ys))) ∨ SqT K H p ys ∧ Q (V.ref p) H)
abbrev teStr (i : Nat) : TE := tCB (fun xs H Q => ∃ a, xs = [V.str a] ∧ Q (V.str a) H) (tCons (tVar i) tNil)
def tMost (K : PySem.W.Frag) : TE := ClX.tCVal K (tC (V.ref (gO K))) "MOST"
def tMany (K : PySem.W.Frag) (E : XK) : TS := tIfS (tTest (tOp (rI0 fun i j => V.bl (decide (j < i))) (tCB (fun xs H Q => ∃ a kvs, xs = [V.ref a] ∧ H a = some (HO.dK kvs) ∧ Q (V.int kvs.length) H) (tCons (tVar 3) tNil)) (tMost K)))
  (tRaise2 (ga K "TooMany") "what" "most" (tC (V.str "fixes")) (tMost K) fun cls d x H => E cls d H) tNext
def tKeep (K : PySem.W.Frag) : TS := sFld K (tVar 0) (tCB (rTupL K) (tCons (tCB (rSortedS K) (tCons (tLockE (tLc (iKeys (tVar 3)) (gName 2) tYes (teStr 2) [2])) tNil)) tNil)) "fixes"
theorem most_read (T : KF P w K mg base) {σ : L2.St} {H : Hp} {Q : VK} (k : Q (.int 8) H) : tMost K σ H Q := by
  obtain ⟨t, cv⟩ := most T
  exact ⟨gO K, .type "type", .int 8, _, rfl, cread T, cv, k⟩
theorem many_read (T : KF P w K mg base) {s0 : V} {tp d : Addr} {o : Option V} {l : List Str} {H : Hp} {E : XK} {D : Ends} (hd : H d = some (.dK (kvsOf l))) (k1 : l.length ≤ 8 → D.nx [some s0, some (.ref tp), o, some (.ref d)] H)
    (k2 : 8 < l.length → Bad2 (ga K "TooMany") "what" "most" H E (.str "fixes") (.int 8)) : tMany K E D [some s0, some (.ref tp), o, some (.ref d)] H := by
  have hl : (kvsOf l).length = l.length := List.length_map _
  refine ⟨_, rfl, d, _, rfl, hd, most_read T ⟨_, 8, rfl, rfl, _, rfl, ?_⟩⟩
  rw [hl]
  by_cases h : 8 < l.length
  · exact if_posB (decide_eq_true (by omega)) (most_read (σ := [some s0, some (.ref tp), o, some (.ref d)]) T (mkb2 (k2 h)))
  · exact if_negB (decide_eq_false (by omega)) (k1 (by omega))
theorem keep_read (T : KF P w K mg base) {p dx tp d : Addr} {o : Option V} {l : List Str} {H : Hp} {D : Ends} (hp : H p = some (.ins (gO K) dx [])) (hd : H d = some (.dK (kvsOf l))) (hn : l.Nodup) (hl : l.length ≤ 8)
    (k : ∀ H' t, Same2 H H' p → H' p = some (.ins (gO K) dx [("fixes", .ref t)]) → H' t = some (.tup ((lined l).map V.str)) → D.nx [some (.ref p), some (.ref tp), o, some (.ref d)] H') : tKeep K D [some (.ref p), some (.ref tp), o, some (.ref d)] H := by
  refine ⟨d, _, hd, trivial, fun od => ⟨_, rfl, d, od, rfl, .inl ⟨kvsOf l, upd_same, fun r nr => ?_⟩⟩⟩
  have ndr : d ≠ r := ne_of_none upd_same nr
  have nr0 : H r = none := by rw [upd_ne ndr.symm] at nr; exact nr
  refine lc_it (walk_keys (kvs := kvsOf l)) (fun i H' => (∀ c u, c ≠ d → H c = some u → H' c = some u) ∧ H' d = some (.frz od (.dK (kvsOf l))) ∧ H' r = some (.lst ((l.take i).map V.str))) ⟨fun c u hc e => ?_, ?_, upd_same⟩ (fun i H' _ q => q.2.1) ?_ ?_
  · rw [upd_ne (ne_of_none e nr0), upd_ne hc]
    exact e
  · rw [upd_ne ndr]
    exact upd_same
  · rintro i x H1 H2 hi ⟨s1, hd1, hr1⟩ ⟨rfl, key, v, hk, rfl⟩
    unfold kvsOf at hk
    rw [List.getElem?_map] at hk
    cases e : l[i]? with
    | none => rw [e] at hk; exact nomatch hk
    | some z =>
      rw [e] at hk
      obtain ⟨rfl, _⟩ := Prod.mk.inj (Option.some.inj hk)
      obtain ⟨hil, hv⟩ := List.getElem?_eq_some_iff.mp e
      refine ⟨rfl, yesB ⟨_, rfl, z, rfl, _, hr1, ?_, fun c u hc e2 => ?_, ?_, ?_⟩⟩
      · rw [List.length_map, List.length_take, sizeLine_eq]
        omega
      · rw [upd_ne (ne_of_none e2 nr0)]
        exact s1 c u hc e2
      · rw [upd_ne ndr]
        exact hd1
      · rw [upd_same]
        have more : l.take (i + 1) = l.take i ++ [z] := by rw [← hv]; exact List.take_succ_eq_append_getElem hil
        rw [more, List.map_append]
        rfl
  · rintro H1 ⟨s1, hd1, hr1⟩
    rw [show (kvsOf l).length = l.length from List.length_map _, List.take_of_length_le (Nat.le_refl _)] at hr1
    refine ⟨hd1, ?_⟩
    have sm : ∀ c u, H c = some u → upd H1 d (.dK (kvsOf l)) c = some u := fun c u e => by
      by_cases hc : c = d
      · subst hc
        rw [upd_same, ← hd]
        exact e
      · rw [upd_ne hc]
        exact s1 c u hc e
    refine ⟨r, l, rfl, SqL.of (by rw [upd_ne ndr.symm]; exact hr1), by omega, fun ys q hy hs nq => ⟨q, _, rfl, .inl ⟨SqL.of upd_same, fun t nt => ?_⟩⟩⟩
    have ey : ys = lined l := sorted_lined hy hs hn
    subst ey
    have p1 := sm p _ hp
    have n1 : p ≠ q := ne_of_none p1 nq
    have p2 : upd (upd H1 d (.dK (kvsOf l))) q (.lst ((lined l).map V.str)) p = some (.ins (gO K) dx []) := by rw [upd_ne n1]; exact p1
    have n2 : p ≠ t := ne_of_none p2 nt
    refine ⟨_, rfl, p, gO K, dx, _, rfl, by rw [upd_ne n2]; exact p2, T.clo, T.noF, by show 0 < 1000; decide, ?_⟩
    refine k _ t (fun c u hc e => ?_) ?_ ?_
    · have e1 := sm c u e
      have c1 : c ≠ q := ne_of_none e1 nq
      have e2 : upd (upd H1 d (.dK (kvsOf l))) q (.lst ((lined l).map V.str)) c = some u := by rw [upd_ne c1]; exact e1
      rw [upd_ne hc, upd_ne (ne_of_none e2 nt)]
      exact e2
    · rw [upd_same]; rfl
    · rw [upd_ne n2.symm]
      exact upd_same
end
end K7
set_option Elab.async false
set_option linter.all false
set_option maxRecDepth 100000
set_option maxHeartbeats 1000000
/-! Lot.__init__ keeps its promise. -/
namespace K7
open PySem PySem.Spec PyProof.Rows L2 RV EV He EF EI
/-- what follows when the names ss are taken: so many that they fit, or too many -/
def LotQ (K : PySem.W.Frag) (p dx : Addr) (E : XK) (Q : VK) (ss : List Str) (H' : Hp) : Prop :=
  ((lined ss).length ≤ 8 → ∀ H2 t, Same2 H' H2 p → H2 p = some (.ins (gO K) dx [("fixes", .ref t)]) → H2 t = some (.tup ((lined ss).map V.str)) → Q .non H2) ∧
  (8 < (lined ss).length → ∀ H2, Same H' H2 → Bad2 (ga K "TooMany") "what" "most" H2 E (.str "fixes") (.int 8))
def spLi (K : PySem.W.Frag) : Sp := fun vs H Q E => ∃ p dx T xs, vs = [.ref p, .ref T] ∧ H p = some (.ins (gO K) dx []) ∧ H T = some (.tup xs) ∧ xs.length ≤ 1000 ∧ Chk K xs H E (LotQ K p dx E Q)
section
variable {P : Program} {w : World} {K : PySem.W.Frag} {mg : Str → Option Value} {base : Heap}
theorem ok_li (T : KF P w K mg base) : FnR P w K mg base (L2.CX P w) 4 (lAd K "__init__") (spStar (spLi K)) := by
  obtain ⟨_, fd, F⟩ := T.lot ("__init__", 1) (by decide)
  obtain ⟨fdF, FF, gF⟩ := T.tops ("is_fix", 4) (by decide)
  have GF : FnOk P w K mg base CX0 1 (ga K "is_fix") fdF ["value"] (spFix K) := ok_fix FF (blt2 T)
  have bF : L2.Binds K fdF ["value"] [] := FunD.bindsN FF fun _ _ _ _ _ _ us hl => match us, hl with | [_], _ => rfl
  obtain ⟨oc, od, dV, kV, doc, pm, an, cdv, ct, osl, rfl, lk, hcd, hD, hK⟩ := F.ex
  rcases hD with ⟨_, rfl⟩ | ⟨e, _⟩
  case inr => exact absurd rfl e
  refine StX.fn_star (ps := ["self"]) (pv := "fixes") lk hcd scLi StX.cxUp (StX.bind_star1 (B := fun us => bindArgs _ ⟨us, []⟩) (fun a => rfl) fun a r rs => rfl) fun A outer s H vs Q E hr h => ?_
  obtain ⟨p, dx, Ta, xs, rfl, hp, hT, hz, c⟩ := h
  refine ⟨_, pss_cons (ps_for (passes_of rfl) rfl (pi_tup (pv 1)) (pg_name (i := 2) scLi.nd rfl (.inl rfl))
      (pss_one (ps_if (pt_not (pt_val (pe_call (E := E0) GF (hr.mono (by decide)) (by rfl) gF FF.kp bF .nil pass0 (pa_cons (pv 2) pa_nil))))
        (pss_one (ps_raise1 T.bf (hr.mono (by decide)) rfl (takes_of rfl rfl rfl rfl) (by rfl) (pv 2))) pss_nil)))
    (pss_cons (Oo.ps_setDc (i := 3) (own := [("fix", 2)]) (g := gName 2) (tt := tYes) (tk := tVar 2) (tv := tC (.bl true)) rfl scLi.nd rfl rfl (Oo.sw_dict rfl rfl rfl rfl) (pi_tup (pv 1)) (blkOk_by (N := scLi_N) (sc := defScope (lSt 1)) (by decide +kernel))
        (fun _ _ _ _ _ => pg_name (i := 2) scLi.nd rfl (.inl rfl)) (fun _ _ _ _ _ => pts_nil) (fun _ _ _ _ _ => pv 2) (fun _ _ _ _ _ => pe_bl))
    (pss_cons (ps_if (pt_cmpR op_gt (pe_callB call_lenD (by rfl) (T.fr "len" (by decide)) PySem.boot_len (pa_cons (pv 3) pa_nil)) (ClX.pe_cval (pe_glob (v := .ref (gO K)) (by rfl) T.go rfl)) (nomark _))
        (pss_one (ps_raise2 T.tm (hr.mono (by decide)) rfl (takes_of rfl rfl rfl rfl) (by rfl) pe_str (ClX.pe_cval (pe_glob (v := .ref (gO K)) (by rfl) T.go rfl)))) pss_nil)
    (pss_one (ps_fld (pv 0) (pe_callTy call_tuple_of (by rfl) (T.fr "tuple" (by decide)) boot_T (pa_cons (pe_callB cr_sortedS (by rfl) (T.fr "sorted" (by decide)) (by decide +kernel)
        (pa_cons (pe_lock (pe_lc (own := [("fix", 2)]) (g := gName 2) (tt := tYes) rfl scLi.nd (pi_keys (pv 3)) (blkOk_by (N := scLi_N) (sc := defScope (lSt 1)) (by decide +kernel))
          (fun _ _ _ _ _ => pg_name (i := 2) scLi.nd rfl (.inl rfl)) (fun _ _ _ _ _ => pts_nil) (fun _ _ _ _ _ => pe_callTy SkE.call_str_str (by rfl) (T.fr "str" (by decide)) boot_T (pa_cons (pv 2) pa_nil)))) pa_nil)) pa_nil)) rfl)))), ?_⟩
  show tSeq (tCk K E) (tSeq (tDd K) (tSeq (tMany K E) (tKeep K))) { nx := fun _ H' => Q .non H', rt := Q } [some (.ref p), some (.ref Ta), none, none] H
  refine ck_read (xs := xs) (fun H' s' => SqT.of (s' _ _ hT)) ?_
  have go : ∀ (ss : List Str), xs = ss.map V.str → ∀ H', Same H H' → LotQ K p dx E Q ss H' → ∀ o, tSeq (tDd K) (tSeq (tMany K E) (tKeep K)) { nx := fun _ H' => Q .non H', rt := Q } [some (.ref p), some (.ref Ta), o, none] H' := by
    intro ss ex H1 s1 q o
    have hz' : ss.length ≤ 1000 := by rw [ex, List.length_map] at hz; exact hz
    refine dd_read (ss := ss) (fun H' s' => SqT.of (by rw [← ex]; exact s' _ _ (s1 _ _ hT))) hz' fun d H2 nd s2 hd => ?_
    refine many_read T hd (fun hl => ?_) fun hl => ?_
    · refine keep_read T (s2 _ _ (s1 _ _ hp)) hd nodup_firsts hl fun H3 t s3 e1 e2 => ?_
      rw [lined_firsts] at e2
      rw [len_firsts] at hl
      exact q.1 hl H3 t (fun c u hc e => s3 c u hc (s2 c u e)) e1 e2
    · rw [len_firsts] at hl
      exact q.2 hl H2 s2
  rcases c with ⟨ss, ex, hf, k⟩ | ⟨ss, v, rest, ex, hf, k⟩
  · exact .inl ⟨ss, ex, hf, fun H' s' o => go ss ex H' s' (k H' s') o⟩
  · exact .inr ⟨ss, v, rest, ex, hf, k⟩
end
end K7
set_option Elab.async false
set_option linter.all false
set_option maxRecDepth 100000
set_option maxHeartbeats 1000000
/-! C(*xs), c(*xs) by a local name, C(), C.m(e) of a static method, C.m(k = e) of a class method. -/
namespace Oo
open PySem PySem.Spec PyProof.Rows L2 PySem.W
section
variable {X : Cx} {CX : CXT} {k : Nat} {C f g p : Addr} {sp : Sp} {E : XK} {mc : Value}
/-- what is asked of __init__ when an instance of the class at C is made with the values vs -/
def wNew (C : Addr) (sp : Sp) (E : XK) (vs : List V) (H1 : Hp) (Q : VK) : Prop := ∀ x dx, H1 x = none → H1 dx = none → dx ≠ x → sp (V.ref x :: vs) (upd (upd H1 dx (.own x)) x (.ins C dx [])) (fun v H2 => v = .non ∧ Q (.ref x) H2) E
def tStarNew (K : Frag) (C : Addr) (sp : Sp) (E : XK) (te : TE) : TE := fun σ H Q => te σ H fun y H1 => ∃ a xs, y = V.ref a ∧ (SqT K H1 a xs ∨ SqL K H1 a xs) ∧ wNew C sp E xs H1 Q
section
variable {x : Str} {e : Expr} {te : TE} {sp_ p1 pos : Pos}
theorem pe_newS (M : Mk X.K C f) (F : FnR X.prog X.w X.K X.mg X.base CX k f sp) (hr : Room (k + 1) X.A) (hg : Gl X x) (hm : X.mg x = some (.ref C)) (hx : Passes CX X E) (he : PE X e te) (hd : (x == ("__debug__" : Str)) = false := by decide)
    (hst : starEach [.Starred e sp_] X.env = [(true, eval e X.env)] := by rfl) : PE X (.Call (.Name x p1) [.Starred e sp_] [] pos) (tStarNew X.K C sp E te) := by
  refine ⟨fun pins s σ H Q I h => ?_⟩
  refine wpAny_Call_Name_kw (ld_glob I hg hm ?_ hd)
  refine callWith_S (h₀ := X.base) I.ok.mod.kin M.kp (thn (he.run pins s σ H _ I h) fun v s1 ⟨y, H1, I1, ry, a, xs, ey, hxs, q⟩ => ?_) hst
  subst ey
  obtain rfl : v = Value.ref a := ry
  exact StX.star_any I1 hxs fun us s2 I2 rv => ⟨I2.kIn, StX.run_makeR M F hr hx I2 rv q⟩
/-- c(*xs), the local c holds the class -/
theorem pe_newL {i : Nat} (M : Mk X.K C f) (F : FnR X.prog X.w X.K X.mg X.base CX k f sp) (hr : Room (k + 1) X.A) (hN : X.N[i]? = some x) (hv : Vis X.env.scope x) (hx : Passes CX X E) (he : PE X e te)
    (hd : (x == ("__debug__" : Str)) = false := by decide) (hcd : (x == ("__classdict__" : Str)) = false := by decide)
    (hst : starEach [.Starred e sp_] X.env = [(true, eval e X.env)] := by rfl) : PE X (.Call (.Name x p1) [.Starred e sp_] [] pos) (fun σ H Q => σ[i]? = some (some (.ref C)) ∧ tStarNew X.K C sp E te σ H Q) := by
  refine ⟨fun pins s σ H Q I h => ?_⟩
  obtain ⟨hs, h⟩ := h
  refine wpAny_Call_Name_kw (thn ((pe_var (pos := p1) hN hv hd hcd).run pins s σ H (fun v H1 => v = .ref C ∧ H1 = H) I ⟨.ref C, hs, rfl, rfl⟩) fun u s0 ⟨v, H0, I0, r0, q0⟩ => ?_)
  obtain ⟨rfl, rfl⟩ := q0
  obtain rfl : u = Value.ref C := r0
  refine callWith_S (h₀ := X.base) I.ok.mod.kin M.kp (thn (he.run pins s0 σ _ _ I0 h) fun v s1 ⟨y, H1, I1, ry, a, xs, ey, hxs, q⟩ => ?_) hst
  subst ey
  obtain rfl : v = Value.ref a := ry
  exact StX.star_any I1 hxs fun us s2 I2 rv => ⟨I2.kIn, StX.run_makeR M F hr hx I2 rv q⟩
/-- C() -/
theorem pe_new0 (M : Mk X.K C f) (F : FnR X.prog X.w X.K X.mg X.base CX k f sp) (hr : Room (k + 1) X.A) (hg : Gl X x) (hm : X.mg x = some (.ref C)) (hx : Passes CX X E) (hd : (x == ("__debug__" : Str)) = false := by decide) :
    PE X (.Call (.Name x p1) [] [] pos) (fun _ H Q => wNew C sp E [] H Q) := by
  refine ⟨fun pins s σ H Q I h => ?_⟩
  refine wpAny_Call_Name_kw (ld_glob I hg hm ?_ hd)
  exact callWith_K0 (first := []) I.kIn M.kp (StX.run_makeR (us := []) (vs := []) M F hr hx I .nil h)
end
/-- C.m is a static method: its record at p, its def at g -/
structure SMet (K : Frag) (C : Addr) (mc : Value) (m : Str) (p g : Addr) : Prop where
  at_ : findCls K (.ref C) mc m = some (.get (.builtin "staticmethod.__get__") (.ref p) .none (.ref C))
  rc : ∃ rest, recIn K p "staticmethod" = some (.ref g :: rest)
  kp : keepIn K (.ref g) = true
theorem smet_of {K : Frag} {m : Str} {C : Addr} (h : He5.wrapB K C "staticmethod" "staticmethod.__get__" m = true) (hk : keepIn K (.ref (He5.wf K C "staticmethod" m)) = true) : SMet K C (.type "type") m (He.ma K C m) (He5.wf K C "staticmethod" m) := by
  obtain ⟨h1, h2⟩ := He5.wrapB_ok h
  exact ⟨h1, h2, hk⟩
section
variable {pins : List (Addr × Obj)} {σ : L2.St} {H : Hp} {s : Shared} {m : Str} {A : Around} {E' : Value → Shared → Prop}
theorem getsm_ok {pl : Sem Bool} {Q : Value × List Value → Shared → Prop} (I : Inv X pins σ H s) (r : ClX.CRead X.K C mc) (c : SMet X.K C mc m p g) (h : ∀ s', Inv X pins σ H s' → Q (.ref g, []) s') : wpAny (model X.prog X.w) A (getMethod (.ref C) m pl) Q E' s := by
  obtain ⟨rest, hp⟩ := c.rc
  refine method_cls I.kIn r.ga (cls_bind I.kIn r.rd c.at_ ?_)
  exact wpAny_call (sm_get (s := { s with toks := s.toks + 1 }) I.kIn hp (handed_on rfl (h _ (I.tok _))))
end
section
variable {o e : Expr} {es : List Expr} {to : TE} {t : TA} {m : Str} {apos pos : Pos} {pl : Sem Bool}
def tSMeth (C : Addr) (sp : Sp) (E : XK) (ta : TE) (t : TA) : TE := fun σ H Q => ta σ H fun x H1 => x = .ref C ∧ t σ H1 fun vs H2 => sp vs H2 Q E
/-- C.m(e), m a static method -/
theorem pe_smeth (he : PE X o to) (r : ClX.CRead X.K C mc) (c : SMet X.K C mc m p g) (F : FnR X.prog X.w X.K X.mg X.base CX k g sp) (hr : Room k X.A) (hx : Passes CX X E) (ha : PA X (e :: es) t)
    (hst : starEach (e :: es) X.env = (false, eval e X.env) :: starEach es X.env := by rfl) (hpl : (backTo pos (starEach es X.env)).any (·.1) = false := by rfl)
    (ht : eval (.Call (.Attribute o m apos) (e :: es) [] pos) X.env = (do
      let u ← eval o X.env
      standAt apos.atName
      let (f, first) ← holding [u] (getMethod u m pl)
      callWith pos f first (backTo pos (starEach (e :: es) X.env)) (backToKw pos (keywordEach [] X.env))) := by rfl) :
    PE X (.Call (.Attribute o m apos) (e :: es) [] pos) (tSMeth C sp E to t) := by
  refine ⟨fun pins s σ H Q I h => ?_⟩
  refine methodCall_KW (pl := pl) (thn (he.run pins s σ H _ I h) fun u s1 ⟨x, H1, I1, rx, ex, q⟩ => ?_) ht
  subst ex
  obtain rfl : u = Value.ref C := rx
  refine getsm_ok I1 r c fun s2 I2 => ?_
  refine callWith_K (h₀ := X.base) I2.ok.mod.kin c.kp (thn (ha.run pos pins s2 σ H1 _ I2 q) fun us s3 ⟨vs, H2, I3, rv, q2⟩ => ⟨I3.kIn, ?_⟩) hst hpl
  exact wpAny_call (run_fnR F hr hx I3 rv q2)
end
end
end Oo
set_option Elab.async false
set_option linter.all false
set_option maxRecDepth 100000
set_option maxHeartbeats 1000000
/-! Lots as they are made; Lot.of. -/
namespace K7
open PySem PySem.Spec PyProof.Rows L2 RV EV He EF EI
/-- a lot at p: its names at tp, ascending fixes, at most eight -/
structure LO (K : PySem.W.Frag) (H : Hp) (p dx tp : Addr) (ns : List Str) : Prop where
  ob : H p = some (.ins (gO K) dx [("fixes", .ref tp)])
  ps : H tp = some (.tup (ns.map V.str))
  asc : Asc ns
  fx : ∀ x ∈ ns, isFixB x = true
  le : ns.length ≤ 8
theorem LO.same {K : PySem.W.Frag} {H H' : Hp} {p dx tp : Addr} {ns : List Str} (o : LO K H p dx tp ns) (s : Same H H') : LO K H' p dx tp ns := ⟨s _ _ o.ob, s _ _ o.ps, o.asc, o.fx, o.le⟩
abbrev IsLot (K : PySem.W.Frag) (H : Hp) (p : Addr) (ns : List Str) : Prop := ∃ dx tp, LO K H p dx tp ns
/-- what is got of a lot of the names ss: a new one, or TooMany -/
def LotR (K : PySem.W.Frag) (E : XK) (Q : VK) (ss : List Str) (H' : Hp) : Prop :=
  ((lined ss).length ≤ 8 → ∀ H2 p dx tp, Same H' H2 → LO K H2 p dx tp (lined ss) → Q (.ref p) H2) ∧
  (8 < (lined ss).length → ∀ H2, Same H' H2 → Bad2 (ga K "TooMany") "what" "most" H2 E (.str "fixes") (.int 8))
/-- Lot(*xs) -/
def MkLot (K : PySem.W.Frag) (xs : List V) (H : Hp) (Q : VK) (E : XK) : Prop := xs.length ≤ 1000 ∧ Chk K xs H E (LotR K E Q)
theorem Chk.mono {K : PySem.W.Frag} {xs : List V} {H H1 : Hp} {E : XK} {R R' : List Str → Hp → Prop} (c : Chk K xs H E R) (s : Same H H1) (h : ∀ ss H', (∀ x ∈ ss, isFixB x = true) → Same H1 H' → R ss H' → R' ss H') : Chk K xs H1 E R' := by
  rcases c with ⟨ss, e, f, k⟩ | ⟨ss, v, r, e, f, k⟩
  · exact .inl ⟨ss, e, f, fun H' s' => h ss H' f s' (k H' (s.trans s'))⟩
  · exact .inr ⟨ss, v, r, e, f, fun H' s' => k H' (s.trans s')⟩
theorem MkLot.same {K : PySem.W.Frag} {xs : List V} {H H1 : Hp} {Q : VK} {E : XK} (m : MkLot K xs H Q E) (s : Same H H1) : MkLot K xs H1 Q E := ⟨m.1, m.2.mono s fun _ _ _ _ r => r⟩
theorem MkLot.good {K : PySem.W.Frag} {ss : List Str} {H : Hp} {Q : VK} {E : XK} (hz : ss.length ≤ 1000) (hf : ∀ x ∈ ss, isFixB x = true) (k : ∀ H', Same H H' → LotR K E Q ss H') : MkLot K (ss.map V.str) H Q E :=
  ⟨by rw [List.length_map]; exact hz, .inl ⟨ss, rfl, hf, k⟩⟩
/-- from what a caller shows to what __init__ asks -/
theorem new_of {K : PySem.W.Frag} {xs : List V} {H : Hp} {Q : VK} {E : XK} (m : MkLot K xs H Q E) : Oo.wNew (gO K) (spStar (spLi K)) E xs H Q := by
  intro x dx hx hdx ne
  refine ⟨[.ref x], xs, rfl, rfl, by have := m.1; rw [sizeLine_eq]; omega, fun T nT => ?_⟩
  have s1 : Same H (upd (upd H dx (.own x)) x (.ins (gO K) dx [])) := fun c u e => by
    rw [upd_ne (ne_of_none e hx), upd_ne (ne_of_none e hdx)]
    exact e
  have hxT : x ≠ T := ne_of_none upd_same nT
  have s2 : Same H (upd (upd (upd H dx (.own x)) x (.ins (gO K) dx [])) T (.tup xs)) := s1.trans (same_new nT)
  refine ⟨x, dx, T, xs, rfl, by rw [upd_ne hxT]; exact upd_same, upd_same, m.1, ?_⟩
  rcases m.2 with ⟨ss, e, f, k⟩ | ⟨ss, v, r, e, f, k⟩
  · refine .inl ⟨ss, e, f, fun H' s' => ⟨fun hl H2 t s3 e1 e2 => ⟨rfl, ?_⟩, fun hl H2 s3 => ?_⟩⟩
    · have sm : Same H H2 := fun c u q => s3 c u (ne_of_none q hx) (s' c u (s2 c u q))
      exact (k H2 sm).1 hl H2 x dx t (fun _ _ q => q) ⟨e1, e2, asc_lined _, fun a ha => f a (mem_lined.mp ha), hl⟩
    · exact (k H2 ((s2.trans s').trans s3)).2 hl H2 fun _ _ q => q
  · exact .inr ⟨ss, v, r, e, f, fun H' s' => k H' (s2.trans s')⟩
section
variable {P : Program} {w : World} {K : PySem.W.Frag} {mg : Str → Option Value} {base : Heap}
theorem mk_lot (T : KF P w K mg base) : Mk K (gO K) (lAd K "__init__") := T.mko
/-- the kind of a lot -/
theorem ty_lot (T : KF P w K mg base) {H : Hp} {a dx : Addr} {fs : List (Str × V)} (e : H a = some (.ins (gO K) dx fs)) : TyX K H (.ref a) (.ref (gO K)) := by
  obtain ⟨o1, o2⟩ := ba T.ob
  obtain ⟨h1, h⟩ := ba T.l1
  obtain ⟨h2, _⟩ := ba h
  exact .base (.ins e T.clo (eqO_ok h1) (eqO_ok o1) (of_decide_eq_true o2) (of_decide_eq_true h2))
theorem kit_lot (T : KF P w K mg base) : PySem.W.kitOne K (.ref (gO K)) (.ref (gO K)) = some true := by
  obtain ⟨_, h⟩ := ba T.l5
  obtain ⟨h, _⟩ := ba h
  exact of_decide_eq_true h
theorem kit_str (T : KF P w K mg base) : PySem.W.kitOne K (.ref (gO K)) (.type "str") = some false := (of_decide_eq_true (ba T.l5).1)
theorem kit_seq (T : KF P w K mg base) : PySem.W.kitAny K (.ref (gO K)) [.type "list", .type "tuple"] = some false := by
  obtain ⟨_, h⟩ := ba T.l5
  obtain ⟨_, h⟩ := ba h
  exact of_decide_eq_true (ba h).1
theorem kit_bes (T : KF P w K mg base) {t : String} (ht : t ∈ besT) : PySem.W.kitOne K (.type t) (.ref (gO K)) = some false := by
  obtain ⟨_, h⟩ := ba T.l5
  obtain ⟨_, h⟩ := ba h
  exact of_decide_eq_true (List.all_eq_true.mp (ba h).2 t ht)
abbrev aOf (K : PySem.W.Frag) : Addr := He5.wf K (gO K) "staticmethod" "of"
abbrev aRead (K : PySem.W.Frag) : Addr := He5.wf K (gO K) "classmethod" "read"
theorem smet (T : KF P w K mg base) : Oo.SMet K (gO K) (.type "type") "of" (ma K (gO K) "of") (aOf K) := by
  obtain ⟨h, _⟩ := ba T.l3
  obtain ⟨fd, F⟩ := T.fo
  exact Oo.smet_of h F.kp
theorem cmet (T : KF P w K mg base) : ClX.CMet K (gO K) (.type "type") "read" (ma K (gO K) "read") (aRead K) := by
  obtain ⟨_, h⟩ := ba T.l3
  obtain ⟨h1, h⟩ := ba h
  obtain ⟨_, h2⟩ := ba h
  exact He5.cmet_of h1 h2
/-! Lot.of -/
/-- a list or a tuple of xs -/
def SeqV (K : PySem.W.Frag) (H : Hp) (v : V) (xs : List V) : Prop := ∃ a, v = .ref a ∧ (H a = some (.lst xs) ∨ H a = some (.tup xs))
def spOf (K : PySem.W.Frag) : Sp := fun vs H Q E => ∃ v, vs = [v] ∧ ((∃ xs, SeqV K H v xs ∧ ∀ H', Same H H' → MkLot K xs H' Q E) ∨
  (∀ H', Same H H' → (∃ t, TyX K H' v t ∧ PySem.W.kitAny K t [.type "list", .type "tuple"] = some false) ∧ Bad1 (ga K "BadLot") "part" H' E (.str "fixes")))
theorem scOf : FnScope ["fixes"] ["fixes"] (defScope (lSt 2)) := ⟨rfl, rfl, rfl, by decide +kernel, rfl, by decide +kernel, by decide +kernel⟩
theorem ok_of (T : KF P w K mg base) {fd : FuncData} (F : FunD K "of" "Lot.of" (defArgs (lSt 2)) (defBody (lSt 2)) (defScope (lSt 2)) [] [] (aOf K) fd) : FnOk P w K mg base (L2.CX P w) 6 (aOf K) fd ["fixes"] (spOf K) := by
  refine F.ok scOf (fun vs H Q E h => ?_) (fun cdv A outer s H vs Q E hr h => ?_)
  · obtain ⟨v, rfl, _⟩ := h
    rfl
  · obtain ⟨v, rfl, k⟩ := h
    refine ⟨_, pss_cons (ps_if (pt_not (pt_val (pe_callB call_isiT (by rfl) (T.fr "isinstance" (by decide)) PyProof.Rows.boot_isinstance (pa_cons (pv 0) (pa_cons (pe_tup (pa_cons (pe_bltn (v := .ty "list") (by rfl) (T.fr "list" (by decide)) boot_T rfl) (pa_cons (pe_bltn (v := .ty "tuple") (by rfl) (T.fr "tuple" (by decide)) boot_T rfl) pa_nil))) pa_nil)))))
        (pss_one (ps_raise1 T.bl (hr.mono (by decide)) rfl (takes_of rfl rfl rfl rfl) (by rfl) pe_str)) pss_nil)
      (pss_one (ps_ret (Oo.pe_newS (E := E) T.mko (ok_li T) hr (by rfl) T.go (passes_call (takes_of rfl rfl rfl rfl) fun _ _ _ _ h => h) (pv 0)))), ?_⟩
    have two : ∀ {σ : L2.St} {H1 : Hp} {D : Ends} {t : Value} {b : Bool}, σ[0]? = some (some v) → (∀ H', Same H1 H' → TyX K H' v t) → PySem.W.kitAny K t [.type "list", .type "tuple"] = some b → (∀ H', Same H1 H' → if (!b) = true then tRaise1 (ga K "BadLot") "part" (tC (V.str "fixes")) (fun cls d x H => E cls d H) D σ H' else tNext D σ H') →
        tIfS (tNot (tB (tCB (rIsiT K) (tCons (tVar 0) (tCons (tTup (tCons (tC (V.ty "list")) (tCons (tC (V.ty "tuple")) tNil))) tNil))))) (tRaise1 (ga K "BadLot") "part" (tC (V.str "fixes")) fun cls d x H => E cls d H) tNext D σ H1 := by
      intro σ H1 D t b hs ty kt q
      exact ⟨v, hs, by show 2 ≤ sizeLine; rw [sizeLine_eq]; decide, fun tp ntp => ⟨v, tp, _, t, _, b, rfl, upd_same, .cons (.ty _) (.cons (.ty _) .nil), ty _ (same_new ntp), kt, b, rfl, q _ (same_new ntp)⟩⟩
    rcases k with ⟨xs, ⟨a, rfl, hs⟩, k⟩ | k
    · have kl : PySem.W.kitAny K (.type "list") [.type "list", .type "tuple"] = some true := kitAny_cons (b := true) (kit_ty (by decide +kernel)) (fun z => nomatch z) fun _ => rfl
      have kt : PySem.W.kitAny K (.type "tuple") [.type "list", .type "tuple"] = some true := kitAny_cons (b := false) (kit_ty (by decide +kernel)) (fun _ => kitAny_cons (b := true) (kit_ty (by decide +kernel)) (fun z => nomatch z) fun _ => rfl) (fun z => nomatch z)
      rcases hs with hs | hs
      · refine two rfl (fun H' s' => .base (.lst (s' _ _ hs))) kl fun H' s' => if_negB rfl ?_
        exact ⟨_, rfl, a, xs, rfl, .inr (SqL.of (s' _ _ hs)), new_of (k H' s')⟩
      · refine two rfl (fun H' s' => .base (.tup (s' _ _ hs))) kt fun H' s' => if_negB rfl ?_
        exact ⟨_, rfl, a, xs, rfl, .inl (SqT.of (s' _ _ hs)), new_of (k H' s')⟩
    · refine ⟨v, rfl, by show 2 ≤ sizeLine; rw [sizeLine_eq]; decide, fun tp ntp => ?_⟩
      obtain ⟨⟨t, ty, kt⟩, bd⟩ := k _ (same_new (o := .tup [.ty "list", .ty "tuple"]) ntp)
      exact ⟨v, tp, _, t, _, false, rfl, upd_same, .cons (.ty _) (.cons (.ty _) .nil), ty, kt, false, rfl, if_posB rfl (mkb1 bd)⟩
end
end K7
set_option Elab.async false
set_option linter.all false
set_option maxRecDepth 100000
set_option maxHeartbeats 1000000
/-! len(o), bool(o), for x in o: o an instance of an own class that says so itself. -/
namespace Ow
open PySem PySem.Spec PyProof.Rows L2
section
variable {X : Cx} {CX : CXT} {k : Nat} {C f : Addr} {fd : FuncData} {ps : List Str} {sp : Sp} {E : XK}
/-- len(o) -/
def rLenO (C : Addr) (sp : Sp) (E : XK) : List V → Hp → VK → Prop := fun xs H Q => ∃ a dx fs, xs = [.ref a] ∧ H a = some (.ins C dx fs) ∧ sp [.ref a] H (fun v H' => ∃ n : Int, v = .int n ∧ 0 ≤ n ∧ n < 2 ^ 63 ∧ Q (.int n) H') E
theorem call_lenO (hs : PySem.W.findIn X.K (.ref C) "__len__" = some (some (.ref f))) (hf : PySem.W.isFn X.K (.ref f) = true) (F : FnOk X.prog X.w X.K X.mg X.base CX k f fd ps sp) (hr : Room (k + 1) X.A) (hb : Binds X.K fd ps []) (hx : Passes CX X E) :
    CallR X (.builtin "len") (rLenO C sp E) := by
  intro pins s σ H xs us Q I r h
  obtain ⟨a, dx, fs, rfl, ea, q⟩ := h
  obtain ⟨u, rfl, ru⟩ := vals1 r
  obtain rfl : u = Value.ref a := ru
  obtain ⟨mA, O, _⟩ := ins_get I.hok ea
  obtain ⟨od, J, _⟩ := O.look
  obtain ⟨m, hF⟩ := I.fr
  have hl := F.len _ _ _ _ q
  refine PySem.W.len_K hF I.ok.mod.kin J hs hf (wpAny_call (codeAny_mono (F.run X.A.in1 X.stack s H ⟨[.ref a], []⟩ [.ref a] [.ref a] _ E hr.in1 I.env0.in1 (by
    have := hb s [.ref a] I.kIn (by simpa using hl)
    simpa using this) (.cons rfl .nil) q) fun rs s' hq => ?_))
  cases rs with
  | error e => exact hx pins σ H s e s' I hq
  | ok fl =>
    cases fl with
    | ret u =>
      obtain ⟨v, H', I', rv, n, rfl, h0, h1, q'⟩ := I.after hq
      obtain ⟨t, rfl⟩ := rv
      exact ⟨⟨h0, h1⟩, .int n, H', I'.tok _, ⟨_, rfl⟩, q'⟩
    | next => exact False.elim hq
    | brk => exact False.elim hq
    | cont => exact False.elim hq
/-- truth of o -/
def rBoolO (C : Addr) (sp : Sp) (E : XK) : List V → Hp → VK → Prop := fun xs H Q => ∃ a dx fs, xs = [.ref a] ∧ H a = some (.ins C dx fs) ∧ sp [.ref a] H (fun v H' => ∃ b : Bool, v = .bl b ∧ Q (.bl b) H') E
theorem truthO {A : Around} (hs : PySem.W.findIn X.K (.ref C) "__bool__" = some (some (.ref f))) (hf : PySem.W.isFn X.K (.ref f) = true) (F : FnOk X.prog X.w X.K X.mg X.base CX k f fd ps sp) (hb : Binds X.K fd ps []) (hx : Passes CX X E)
    {pins : List (Addr × Obj)} {σ : L2.St} {H : Hp} {s : Shared} {a dx : Addr} {fs : List (Str × V)} {Q : Bool → Hp → Prop} (I : Inv X pins σ H s) (hr : Room k A) (e0 : Env0 X.prog X.w X.K X.mg X.base A X.stack s H) (ea : H a = some (.ins C dx fs))
    (q : sp [.ref a] H (fun v H' => ∃ b : Bool, v = .bl b ∧ Q b H') E) : wpAny (model X.prog X.w) A (truthy (.ref a)) (fun b s' => ∃ H', Inv X pins σ H' s' ∧ Q b H') X.xe s := by
  obtain ⟨mA, O, _⟩ := ins_get I.hok ea
  obtain ⟨od, J, _⟩ := O.look
  obtain ⟨m, hF⟩ := I.fr
  have hl := F.len _ _ _ _ q
  refine PySem.W.truthy_K hF I.ok.mod.kin J hs hf (wpAny_call (codeAny_mono (F.run A X.stack s H ⟨[.ref a], []⟩ [.ref a] [.ref a] _ E hr e0 (by
    have := hb s [.ref a] I.kIn (by simpa using hl)
    simpa using this) (.cons rfl .nil) q) fun rs s' hq => ?_))
  cases rs with
  | error e => exact hx pins σ H s e s' I hq
  | ok fl =>
    cases fl with
    | ret u =>
      obtain ⟨v, H', I', rv, b, rfl, q'⟩ := I.after hq
      obtain rfl : u = Value.bool b := rv
      exact ⟨H', I', q'⟩
    | next => exact False.elim hq
    | brk => exact False.elim hq
    | cont => exact False.elim hq
end
section
variable {prog : Program} {w : World} {a : Addr}
open PySem.Sem (wp)
theorem boolnew : MeetsIn prog w (Builtin.«bool.__new__» ⟨[.type "bool", .ref a], []⟩) (fun A R s => wpAny (model prog w) A.in1 (truthy (.ref a)) (fun b s' => R (.ok (.ret (.bool b))) s') (fun e s' => R (.error e) s') s) :=
  .of_wp fun A R s h => by
    obtain ⟨hp, g, d, tk, os⟩ := s
    have f1 := F.conv_sub_bool
    repeat (any_goals (first | assumption | (with_reducible refine wpAny_mono h (fun b s' hb => ?_) (fun e s' he => he)) | wp_step))
    all_goals first | exact ⟨_, rfl, hb⟩ | exact hb
end
section
variable {X : Cx} {CX : CXT} {k : Nat} {C f : Addr} {fd : FuncData} {ps : List Str} {sp : Sp} {E : XK}
theorem _root_.L2.Env0.in2 {P : Program} {w : World} {K : PySem.W.Frag} {mg : Str → Option Value} {base : Heap} {A : Around} {outer : List Env} {s : Shared} {H : Hp} (e : Env0 P w K mg base A outer s H) : Env0 P w K mg base A.in1.in1 outer s H := e.in1.in1
/-- bool(o) -/
theorem call_boolO (hs : PySem.W.findIn X.K (.ref C) "__bool__" = some (some (.ref f))) (hf : PySem.W.isFn X.K (.ref f) = true) (G : FnOk X.prog X.w X.K X.mg X.base CX k f fd ps sp) (hr : Room (k + 2) X.A) (hb : Binds X.K fd ps []) (hx : Passes CX X E) :
    CallR X (.type "bool") (rBoolO C sp E) := by
  intro pins s σ H xs us Q I r h
  obtain ⟨a, dx, fs, rfl, ea, q⟩ := h
  obtain ⟨u, rfl, ru⟩ := vals1 r
  obtain rfl : u = Value.ref a := ru
  refine callType_newIn PySem.F.called_bool PySem.F.newNe_bool (PySem.F.typeCall_bool_1 _) (PySem.F.newCall_bool_1 _) (fun obj => PySem.F.args_object_init_2 obj _) PySem.F.entry_bool_new boolnew ?_
  refine wpAny_mono (truthO (Q := fun b H' => Q (.bl b) H') hs hf G hb hx I hr.in1.in1 I.env0.in2 ea q) (fun b s' ⟨H', I', q'⟩ => ?_) fun e s' he => he
  exact ⟨PySem.typeIs_bool _ _, .bl b, H', I', rfl, q'⟩
end
end Ow
set_option Elab.async false
set_option linter.all false
set_option maxRecDepth 100000
set_option maxHeartbeats 1000000
namespace Ow
open PySem PySem.Spec PyProof.Rows L2
/-- an iterator at it over the tuple at t, at its start -/
def TuO (t it : Addr) : HO := .ext fun h => h.IsTupleIter it t 0
theorem tuO_ok {P : Program} {w : World} {H : Hp} {h : Heap} {t it : Addr} (e : h.IsTupleIter it t 0) : ObjOk P w H h it (TuO t it) := by
  obtain ⟨o, e1, e2, e3⟩ := e
  exact ⟨⟨o, e1, e2, e3⟩, ⟨o, e1⟩, fun _ _ ⟨u, b1, b2, b3⟩ k => ⟨u, k _ b1, b2, b3⟩⟩
section
variable {X : Cx} {pins : List (Addr × Obj)} {σ : L2.St} {H : Hp} {s : Shared}
/-- iter(t), t a tuple; the iterator is newer than the def's entry -/
def rIterT (X : Cx) : List V → Hp → VK → Prop := fun xs H Q => ∃ (t : Addr) (zs : List V), xs = [.ref t] ∧ SqT X.K H t zs ∧ ∀ it, H it = none → X.s_0.heap.objs.size ≤ it → Q (.ref it) (upd H it (TuO t it))
theorem call_iterT : CallR X (.builtin "iter") (rIterT X) := by
  intro pins s σ H xs us Q I r h
  obtain ⟨t, zs, rfl, hq, q⟩ := h
  obtain rfl := Vals.ref1 r
  obtain ⟨its, rv, pl, hz⟩ := I.tuple hq
  refine Calls.call_function_entry (by decide +kernel) (by decide +kernel) PySem.W.kdk_entry_iter (PySem.W.kdk_args_iter _) ?_
  unfold Builtin.«iter»
  refine wpAny_bind (m := someArgs "iter" 1 2 _) (wpAny_of_eq (a := [Value.ref t]) (by first | rfl | kernel_rfl!) ?_)
  refine wpAny_bind (m := pyIter (.ref t)) (wpAny_pyIter_tuple (show s.heap.IsTuple t its.toArray from pl) ?_)
  exact wpAny_pure ⟨_, rfl, .ref s.heap.objs.size, _, I.laid (t' := s.toks) (fun b u e => Heap.get?_push_of_some _ e) (Nat.le_refl _) (tuO_ok ⟨_, Heap.get?_push_size _ rfl, rfl, rfl⟩), rfl, q _ (I.hok.fresh (Nat.le_refl _)) I.sz⟩
/-- a tracked thing that is new is tracked no more -/
theorem forget {a : Addr} {φ : Heap → Prop} (I : Inv X pins σ H s) (ha : H a = some (.ext φ)) (n0 : X.s_0.heap.get? a = none) : Inv X pins σ (L2.delH H a) s := by
  have ne : ∀ {b : Addr} {u : HO}, H b = some u → (∀ ψ, u ≠ .ext ψ) → b ≠ a := fun {b u} e n q => by
    rw [q, ha] at e
    exact n φ (Option.some.inj e).symm
  have nn : ∀ {b : Addr}, H b = none → b ≠ a := fun {b} e q => by
    rw [q, ha] at e
    cases e
  have old : ∀ {b : Addr} {o : Obj}, X.s_0.heap.get? b = some o → b ≠ a := fun {b o} e q => by
    rw [q, n0] at e
    cases e
  refine ⟨I.ok, I.os, I.bare, ⟨I.base.keep, I.base.slot, fun b o e n hx => ?_, I.base.there, fun b xs e => ?_, fun b o u e => ?_, fun b ps e => ?_⟩, I.loc, I.cell, ?_, fun x c e => ?_, fun p hp => ?_, fun b u e => ?_, I.len⟩
  · rw [delH_ne (old e)]
    exact I.base.free b o e n hx
  · have q := I.base.tups b xs e
    rw [delH_ne (ne q (fun _ z => nomatch z))]
    exact q
  · have q := I.base.frzs b o u e
    rw [delH_ne (ne q (fun _ z => nomatch z))]
    exact q
  · obtain ⟨more, q⟩ := I.base.tbls b ps e
    exact ⟨more, by rw [delH_ne (ne q (fun _ z => nomatch z))]; exact q⟩
  · rw [delH_ne (nn I.free)]
    exact I.free
  · rw [delH_ne (nn (I.freeC x c e))]
    exact I.freeC x c e
  · obtain ⟨p1, p2, p3⟩ := I.pin p hp
    exact ⟨p1, by rw [delH_ne (nn p2)]; exact p2, p3⟩
  · have hb : b ≠ a := fun q => by
      rw [q, delH_same] at e
      cases e
    rw [delH_ne hb] at e
    refine (I.hok b u e).stay (fun _ _ _ r => r) (fun c r => ?_) fun c xs r => ?_
    · rw [delH_ne (ne r (fun _ z => nomatch z))]
      exact r
    · rw [delH_ne (ne r (fun _ z => nomatch z))]
      exact r
end
/-- what is asked of the own __iter__'s def: at the object at a, with the heap H, it gives a new iterator over the tuple at tp -/
def Gives1 (X : Cx) (k : Nat) (f : Addr) (a tp : Addr) (H : Hp) : Prop := ∀ (s : Shared), Env0 X.prog X.w X.K X.mg X.base X.A X.stack s H → Room k X.A → X.K.In s.heap →
  codeAny (model X.prog X.w) X.A (.call (.ref f) ⟨[.ref a], []⟩) (CR CX0 X.stack X.prog X.w H s (fun v H' => ∃ it, v = .ref it ∧ H it = none ∧ s.heap.objs.size ≤ it ∧ H' = upd H it (TuO tp it)) E0) s
def iOwn (X : Cx) (C : Addr) (k : Nat) (f : Addr) (te : TE) : TI := fun σ H R => te σ H fun x H1 => ∃ a dx fs tp ws, x = .ref a ∧ H1 a = some (.ins C dx fs) ∧ SqT X.K H1 tp ws ∧ Gives1 X k f a tp H1 ∧ R (Itt X.K tp) H1
theorem pi_own {X : Cx} {C f : Addr} {k : Nat} {tg e : Expr} {te : TE} (he : PE X e te) (hs : PySem.W.findIn X.K (.ref C) "__iter__" = some (some (.ref f))) (hf : PySem.W.isFn X.K (.ref f) = true) (hr : Room k X.A) : PI X tg e (iOwn X C k f te) := by
  refine ⟨fun pins s σ H R I h => ?_⟩
  refine thn (he.run pins s σ H _ I h) fun v s1 ⟨x, H1, I1, r1, a, dx, fs, tp, ws, ex, ea, ht, hG, q⟩ => ?_
  subst ex
  obtain rfl : v = Value.ref a := r1
  obtain ⟨mA, O, _⟩ := ins_get I1.hok ea
  obtain ⟨od, J, _⟩ := O.look
  obtain ⟨m, hF⟩ := I1.fr
  refine PySem.W.owit_iter hF I1.ok.mod.kin J hs hf (wpAny_call (codeAny_mono (hG s1 I1.env0 hr I1.kIn) fun rs s' hq => ?_))
  cases rs with
  | error e => exact (show False from hq).elim
  | ok fl =>
    cases fl with
    | ret u =>
      obtain ⟨v, H', I', rv, it, rfl, hn, hz, rfl⟩ := I1.after hq
      obtain rfl : u = Value.ref it := rv
      have ho : ObjOk X.prog X.w (upd H1 it (TuO tp it)) s'.heap it (TuO tp it) := I'.hok it _ upd_same
      have st : s'.heap.IsTupleIter it tp 0 := ho.1
      have n0 : X.s_0.heap.get? it = none := by
        cases e : X.s_0.heap.get? it with
        | none => rfl
        | some o => exact absurd (Heap.lt_size e) (Nat.not_lt.mpr (Nat.le_trans I1.sz hz))
      have J' := forget I' upd_same n0
      rw [delH_new hn] at J'
      unfold PySem.W.OwitIt
      have hT : s'.TypeIs (.ref it) "tuple_iterator" := let ⟨o, e1, e2, _⟩ := st; ⟨o, e1, e2⟩
      refine wpAny_specialOf hT PySem.F.slot_tuple_iterator_next.lookup ?_
      refine ⟨it, [it], _, _, H1, rfl, J', turn_tuple tp _, st, fun b hb => ?_, q⟩
      have e : b = it := by simpa using hb
      subst e
      refine ⟨hn, Nat.ne_of_gt (Nat.lt_of_lt_of_le I1.lt hz), I1.nofs hz, .inr (Nat.le_trans I1.sz hz), fun x c e z => ?_, fun p hp z => ?_⟩
      · obtain ⟨v, q⟩ := I1.cell x c e
        exact absurd (Nat.lt_of_lt_of_le q.lt (by rw [z]; exact hz)) (Nat.lt_irrefl _)
      · exact absurd (Nat.lt_of_lt_of_le (Heap.lt_size (I1.pin p hp).1) (by rw [z]; exact hz)) (Nat.lt_irrefl _)
    | next => exact False.elim hq
    | brk => exact False.elim hq
    | cont => exact False.elim hq
end Ow
set_option Elab.async false
set_option linter.all false
set_option maxRecDepth 100000
set_option maxHeartbeats 1000000
/-! Lists and tuples of texts, compared. -/
namespace K7
open PySem PySem.Spec PyProof.Rows L2
theorem fix_ok {x : Str} (h : isFixB x = true) : PyData.strOk x = true := by
  unfold isFixB at h
  obtain ⟨_, h⟩ := Bool.and_eq_true_iff.mp h
  obtain ⟨_, h⟩ := Bool.and_eq_true_iff.mp h
  unfold PyData.strOk
  rw [← Array.all_toList, List.all_eq_true]
  intro c hc
  have := List.all_eq_true.mp h c hc
  unfold letB at this
  obtain ⟨_, h2⟩ := Bool.and_eq_true_iff.mp this
  have := of_decide_eq_true h2
  exact decide_eq_true (by omega)
theorem canLay_s : ∀ ss : List Str, (∀ x ∈ ss, PyData.strOk x = true) → PyData.canLayAll0 (ss.map PyData.str) = true
  | [], _ => by simp only [List.map_nil, PyData.canLayAll0]
  | x :: r, h => by
    simp only [List.map_cons, PyData.canLayAll0, PyData.canLay0, Bool.and_eq_true]
    exact ⟨h x (List.mem_cons_self ..), canLay_s r fun y hy => h y (List.mem_cons_of_mem _ hy)⟩
theorem depth_s : ∀ ss : List Str, PyData.depthAll (ss.map PyData.str) = 0
  | [] => by simp only [List.map_nil, PyData.depthAll]
  | x :: r => by simp [PyData.depthAll, PyData.depth, depth_s r]
theorem shapedL {ss : List Str} (h : ∀ x ∈ ss, PyData.strOk x = true) : SeqAt.shaped (.list (ss.map PyData.str)) = true := by
  simp [SeqAt.shaped, PyData.canLay0, PyData.depth, canLay_s ss h, depth_s]
theorem shapedT {ss : List Str} (h : ∀ x ∈ ss, PyData.strOk x = true) : SeqAt.shaped (.tuple (ss.map PyData.str)) = true := by
  simp [SeqAt.shaped, PyData.canLay0, PyData.depth, canLay_s ss h, depth_s]
theorem dp_s {K : PySem.W.Frag} {H : Hp} : ∀ ss : List Str, DpAll K H (ss.map V.str) (ss.map PyData.str)
  | [] => .nil
  | x :: r => .cons (.str x) (dp_s r)
theorem eqvAll_s : ∀ xs ys : List Str, PyData.eqvAll (xs.map PyData.str) (ys.map PyData.str) = decide (xs = ys)
  | [], [] => rfl
  | [], _ :: _ => rfl
  | _ :: _, [] => rfl
  | x :: xs, y :: ys => by
    simp only [List.map_cons, PyData.eqvAll, PyData.eqv, eqvAll_s xs ys]
    by_cases h : x = y
    · subst h
      simp
    · have : (x == y) = false := beq_false_of_ne h
      rw [this]
      simp [h]
theorem eqvT (xs ys : List Str) : PyData.eqv (.tuple (xs.map PyData.str)) (.tuple (ys.map PyData.str)) = decide (xs = ys) := eqvAll_s xs ys
theorem eqvL (xs ys : List Str) : PyData.eqv (.list (xs.map PyData.str)) (.list (ys.map PyData.str)) = decide (xs = ys) := eqvAll_s xs ys
/-- == and != of two tuples of fixes -/
theorem eqT {K : PySem.W.Frag} {H : Hp} {Q : VK} {a b : Addr} {xs ys : List Str} (ha : SqT K H a (xs.map V.str)) (hb : SqT K H b (ys.map V.str)) (fx : ∀ x ∈ xs, PyData.strOk x = true) (fy : ∀ x ∈ ys, PyData.strOk x = true) (q : Q (.bl (decide (xs = ys))) H) : rEqD K (.ref a) (.ref b) H Q :=
  ⟨_, _, .tup ha (dp_s xs), .tup hb (dp_s ys), shapedT fx, shapedT fy, by rw [eqvT]; exact q⟩
theorem neT {K : PySem.W.Frag} {H : Hp} {Q : VK} {a b : Addr} {xs ys : List Str} (ha : SqT K H a (xs.map V.str)) (hb : SqT K H b (ys.map V.str)) (fx : ∀ x ∈ xs, PyData.strOk x = true) (fy : ∀ x ∈ ys, PyData.strOk x = true) (q : Q (.bl (!decide (xs = ys))) H) : rNeD K (.ref a) (.ref b) H Q :=
  ⟨_, _, .tup ha (dp_s xs), .tup hb (dp_s ys), shapedT fx, shapedT fy, by rw [eqvT]; exact q⟩
theorem eqL {K : PySem.W.Frag} {H : Hp} {Q : VK} {a b : Addr} {xs ys : List Str} (ha : SqL K H a (xs.map V.str)) (hb : SqL K H b (ys.map V.str)) (fx : ∀ x ∈ xs, PyData.strOk x = true) (fy : ∀ x ∈ ys, PyData.strOk x = true) (q : Q (.bl (decide (xs = ys))) H) : rEqD K (.ref a) (.ref b) H Q :=
  ⟨_, _, .lst ha (dp_s xs), .lst hb (dp_s ys), shapedL fx, shapedL fy, by rw [eqvL]; exact q⟩
theorem neL {K : PySem.W.Frag} {H : Hp} {Q : VK} {a b : Addr} {xs ys : List Str} (ha : SqL K H a (xs.map V.str)) (hb : SqL K H b (ys.map V.str)) (fx : ∀ x ∈ xs, PyData.strOk x = true) (fy : ∀ x ∈ ys, PyData.strOk x = true) (q : Q (.bl (!decide (xs = ys))) H) : rNeD K (.ref a) (.ref b) H Q :=
  ⟨_, _, .lst ha (dp_s xs), .lst hb (dp_s ys), shapedL fx, shapedL fy, by rw [eqvL]; exact q⟩
end K7
set_option Elab.async false
set_option linter.all false
set_option maxRecDepth 100000
set_option maxHeartbeats 1000000
/-! Lot: str, ==, in, len, iter. -/
namespace K7
open PySem PySem.Spec PyProof.Rows L2 RV EV He EF EI
section
variable {P : Program} {w : World} {K : PySem.W.Frag} {mg : Str → Option Value} {base : Heap}
theorem lm (T : KF P w K mg base) (q : Str × Nat) (h : q ∈ lotN) : Meth K (gO K) q.1 (lAd K q.1) := (T.lot q h).1
theorem sc1s (i : Nat) (h : (defScope (lSt i)).kind = .function := by rfl) : True := trivial
/-! __len__ -/
def spLenL (K : PySem.W.Frag) : Sp := fun vs H Q _ => ∃ p ns, vs = [.ref p] ∧ IsLot K H p ns ∧ Q (.int ns.length) H
theorem scLen : FnScope ["self"] ["self"] (defScope (lSt 7)) := ⟨rfl, rfl, rfl, by decide +kernel, rfl, by decide +kernel, by decide +kernel⟩
theorem ok_lenL (T : KF P w K mg base) {fd : FuncData} (F : FunD K "__len__" "Lot.__len__" (defArgs (lSt 7)) (defBody (lSt 7)) (defScope (lSt 7)) [] [] (lAd K "__len__") fd) : FnOk P w K mg base CX0 1 (lAd K "__len__") fd ["self"] (spLenL K) := by
  refine F.ok scLen (fun vs H Q E h => ?_) (fun cdv A outer s H vs Q E hr h => ?_)
  · obtain ⟨p, ns, rfl, _⟩ := h
    rfl
  · obtain ⟨p, ns, rfl, ⟨dx, tp, O⟩, k⟩ := h
    refine ⟨_, PSs.nox (pss_one (ps_ret (pe_callB call_len_seq (by rfl) (T.fr "len" (by decide)) PySem.boot_len (pa_cons (pe_fld (pv 0) rfl) pa_nil)))), ?_⟩
    refine ⟨_, rfl, p, gO K, dx, _, _, rfl, O.ob, T.clo, T.noF, rfl, tp, _, rfl, .inr (SqT.of O.ps), ?_⟩
    rw [List.length_map]
    exact k
/-! __iter__ -/
def spIterL (K : PySem.W.Frag) (z : Nat) : Sp := fun vs H Q _ => ∃ p ns dx tp, vs = [.ref p] ∧ LO K H p dx tp ns ∧ ∀ it, H it = none → z ≤ it → Q (.ref it) (upd H it (Ow.TuO tp it))
/-! __str__ -/
def lotText (ns : List Str) : Str := if ns.isEmpty then "-" else Txt.join " " ns
def spStrL (K : PySem.W.Frag) : Sp := fun vs H Q _ => ∃ p ns, vs = [.ref p] ∧ IsLot K H p ns ∧ Q (.str (lotText ns)) H
theorem scStr : FnScope ["self"] ["self"] (defScope (lSt 4)) := ⟨rfl, rfl, rfl, by decide +kernel, rfl, by decide +kernel, by decide +kernel⟩
theorem sum_len {ns : List Str} (h : ∀ x ∈ ns, x.length ≤ 8) : (ns.map fun x => x.length).sum ≤ ns.length * 8 := by
  induction ns with
  | nil => exact Nat.le_refl _
  | cons x r ih =>
    have h1 := h x (List.mem_cons_self ..)
    have h2 := ih fun y hy => h y (List.mem_cons_of_mem _ hy)
    rw [List.map_cons, List.sum_cons, List.length_cons]
    omega
theorem one_ : (" " : Str).length = 1 := by decide +kernel
theorem ok_strL (T : KF P w K mg base) {fd : FuncData} (F : FunD K "__str__" "Lot.__str__" (defArgs (lSt 4)) (defBody (lSt 4)) (defScope (lSt 4)) [] [] (lAd K "__str__") fd) : FnOk P w K mg base CX0 1 (lAd K "__str__") fd ["self"] (spStrL K) := by
  refine F.ok scStr (fun vs H Q E h => ?_) (fun cdv A outer s H vs Q E hr h => ?_)
  · obtain ⟨p, ns, rfl, _⟩ := h
    rfl
  · obtain ⟨p, ns, rfl, ⟨dx, tp, O⟩, k⟩ := h
    refine ⟨_, PSs.nox (pss_cons (ps_if (pt_not (pt_truth (pe_fld (pv 0) rfl) (fun _ => rfl))) (pss_one (ps_ret pe_str)) pss_nil) (pss_one (ps_ret (pe_join pe_str (pe_fld (pv 0) rfl))))), ?_⟩
    refine ⟨_, rfl, p, gO K, dx, _, _, rfl, O.ob, T.clo, T.noF, rfl, !(ns.map V.str).isEmpty, .inr (.inl ⟨_, SqT.of O.ps, rfl⟩), ?_⟩
    unfold lotText at k
    have e : (ns.map V.str).isEmpty = ns.isEmpty := by cases ns <;> rfl
    rw [e]
    cases e2 : ns.isEmpty with
    | true =>
      rw [e2] at k
      exact if_posB rfl k
    | false =>
      rw [e2] at k
      have k : Q (.str (Txt.join " " ns)) H := k
      refine if_negB rfl ⟨⟨_, rfl⟩, _, rfl, p, gO K, dx, _, _, rfl, O.ob, T.clo, T.noF, rfl, " ", tp, ns, rfl, rfl, .inr (SqT.of O.ps), ?_, k⟩
      have h1 := sum_len fun x hx => fix_len (O.fx x hx)
      have h2 := O.le
      rw [one_]
      omega
/-! __eq__ -/
theorem scEq : FnScope ["self", "other"] ["self", "other"] (defScope (lSt 5)) := ⟨rfl, rfl, rfl, by decide +kernel, rfl, by decide +kernel, by decide +kernel⟩
/-- the other one is a lot, or of a kind that is none -/
def spEqL (K : PySem.W.Frag) : Sp := fun vs H Q _ => ∃ p ns v, vs = [.ref p, v] ∧ IsLot K H p ns ∧ ((∃ q ms, v = .ref q ∧ IsLot K H q ms ∧ Q (.bl (decide (ns = ms))) H) ∨ (∃ t, TyX K H v t ∧ PySem.W.kitOne K t (.ref (gO K)) = some false ∧ Q (.bl false) H))
theorem fx_ok {K : PySem.W.Frag} {H : Hp} {p dx tp : Addr} {ns : List Str} (O : LO K H p dx tp ns) : ∀ x ∈ ns, PyData.strOk x = true := fun x hx => fix_ok (O.fx x hx)
theorem ok_eqL (T : KF P w K mg base) {fd : FuncData} (F : FunD K "__eq__" "Lot.__eq__" (defArgs (lSt 5)) (defBody (lSt 5)) (defScope (lSt 5)) [] [] (lAd K "__eq__") fd) : FnOk P w K mg base CX0 1 (lAd K "__eq__") fd ["self", "other"] (spEqL K) := by
  refine F.ok scEq (fun vs H Q E h => ?_) (fun cdv A outer s H vs Q E hr h => ?_)
  · obtain ⟨p, ns, v, rfl, _⟩ := h
    rfl
  · obtain ⟨p, ns, v, rfl, ⟨dx, tp, O⟩, k⟩ := h
    refine ⟨_, PSs.nox (pss_one (ps_ret (pe_and (pe_callB call_isi (by rfl) (T.fr "isinstance" (by decide)) PyProof.Rows.boot_isinstance (pa_cons (pv 1) (pa_cons (pe_glob (v := .ref (gO K)) (by rfl) T.go rfl) pa_nil))) (pe_one (pe_cmpR (op_eqD hr.units) (pe_fld (pv 0) rfl) (pe_fld (pv 1) rfl) (nomark _)))))), ?_⟩
    rcases k with ⟨q, ms, rfl, ⟨dy, tq, O2⟩, k⟩ | ⟨t, ty, kt, k⟩
    · refine ⟨_, rfl, .ref q, .ref (gO K), _, _, true, rfl, .own _, ty_lot T O2.ob, kit_lot T, true, rfl, if_posB rfl ?_⟩
      refine ⟨_, rfl, p, gO K, dx, _, _, rfl, O.ob, T.clo, T.noF, rfl, _, rfl, q, gO K, dy, _, _, rfl, O2.ob, T.clo, T.noF, rfl, ?_⟩
      exact eqT (SqT.of O.ps) (SqT.of O2.ps) (fx_ok O) (fx_ok O2) k
    · exact ⟨_, rfl, v, .ref (gO K), _, _, false, rfl, .own _, ty, kt, false, rfl, if_negB rfl k⟩
/-! __contains__ -/
theorem scCo : FnScope ["self", "x"] ["self", "x"] (defScope (lSt 6)) := ⟨rfl, rfl, rfl, by decide +kernel, rfl, by decide +kernel, by decide +kernel⟩
def spCoL (K : PySem.W.Frag) : Sp := fun vs H Q _ => ∃ p ns v, vs = [.ref p, v] ∧ IsLot K H p ns ∧ ((∃ x, v = .str x ∧ isFixB x = true ∧ ∀ H', Same H H' → Q (.bl (decide (x ∈ ns))) H') ∨ (NoFix K H v ∧ ∀ H', Same H H' → Q (.bl false) H'))
theorem ok_coL (T : KF P w K mg base) {fd : FuncData} (F : FunD K "__contains__" "Lot.__contains__" (defArgs (lSt 6)) (defBody (lSt 6)) (defScope (lSt 6)) [] [] (lAd K "__contains__") fd) : FnOk P w K mg base CX0 2 (lAd K "__contains__") fd ["self", "x"] (spCoL K) := by
  obtain ⟨fdF, FF, gF⟩ := T.tops ("is_fix", 4) (by decide)
  have GF : FnOk P w K mg base CX0 1 (ga K "is_fix") fdF ["value"] (spFix K) := ok_fix FF (blt2 T)
  have bF : L2.Binds K fdF ["value"] [] := FunD.bindsN FF fun _ _ _ _ _ _ us hl => match us, hl with | [_], _ => rfl
  refine F.ok scCo (fun vs H Q E h => ?_) (fun cdv A outer s H vs Q E hr h => ?_)
  · obtain ⟨p, ns, v, rfl, _⟩ := h
    rfl
  · obtain ⟨p, ns, v, rfl, ⟨dx, tp, O⟩, k⟩ := h
    refine ⟨_, PSs.nox (pss_one (ps_ret (pe_and (pe_call (E := E0) GF hr (by rfl) gF FF.kp bF .nil pass0 (pa_cons (pv 1) pa_nil)) (pe_one (pe_cmpR op_in_seq (pv 1) (pe_fld (pv 0) rfl) rfl))))), ?_⟩
    refine ⟨_, rfl, ?_⟩
    unfold tNil
    show spFix K [v] H _ _
    rcases k with ⟨x, rfl, hx, k⟩ | ⟨nf, k⟩
    · refine sp_fix (.inl ⟨x, rfl, hx⟩) fun H' s' b hb => ⟨b, rfl, if_posB (by rw [hb]; exact hx) ?_⟩
      have O' := O.same s'
      refine ⟨_, rfl, _, rfl, p, gO K, dx, _, _, rfl, O'.ob, T.clo, T.noF, rfl, tp, _, rfl, .inr (SqT.of O'.ps), rfl, flat_strs ns, ?_⟩
      show Q (.bl (inV (.str x) (ns.map V.str))) H'
      rw [inV_str]
      exact k H' s'
    · refine sp_fix (.inr nf) fun H' s' b hb => ⟨b, rfl, if_negB ?_ (k H' s')⟩
      rw [hb]
      rcases nf with ⟨x, rfl, _, h⟩ | ⟨t, ht, hk⟩
      · exact h
      · cases v with
        | str x =>
          have e : t = .type "str" := by
            cases ht with
            | base h => cases h; rfl
          subst e
          exact absurd hk (by rw [kit_ty (by decide +kernel : kitB "str" "str" = some true)]; intro z; cases z)
        | _ => rfl
/-! __iter__ -/
theorem scIt : FnScope ["self"] ["self"] (defScope (lSt 8)) := ⟨rfl, rfl, rfl, by decide +kernel, rfl, by decide +kernel, by decide +kernel⟩
theorem gives_iterL {X : Cx} (T : KF X.prog X.w X.K X.mg X.base) {H : Hp} {p dx tp : Addr} {ns : List Str} (O : LO X.K H p dx tp ns) : Ow.Gives1 X 1 (lAd X.K "__iter__") p tp H := by
  obtain ⟨_, fd, F⟩ := T.lot ("__iter__", 8) (by decide)
  have b := FunD.bindsA (ps := ["self"]) F fun _ _ _ _ _ _ us hl => match us, hl with | [_], _ => rfl
  obtain ⟨oc, od, dV, kV, doc, pm, an, cdv, ct, osl, rfl, lk, hcd, hD, hK⟩ := F.ex
  intro s e0 hr hK
  refine LamX.run_ofS (N := ["self"]) (ps := ["self"]) (us := [.ref p]) (vs := [.ref p]) lk hcd scIt hr e0 (b s [.ref p] rfl) (.cons rfl .nil) rfl fun hr' => ?_
  refine ⟨_, PSs.nox (pss_one (ps_ret (pe_callB Ow.call_iterT (by rfl) (T.fr "iter" (by decide)) (by decide +kernel) (pa_cons (pe_fld (pv 0) rfl) pa_nil)))), ?_⟩
  exact ⟨_, rfl, p, _, dx, _, _, rfl, O.ob, T.clo, T.noF, rfl, tp, _, rfl, SqT.of O.ps, fun it n1 n2 => ⟨it, rfl, n1, n2, rfl⟩⟩
end
end K7
set_option Elab.async false
set_option linter.all false
set_option maxRecDepth 100000
set_option maxHeartbeats 1000000
/-! t[sl]: a tuple at a slice object. -/
namespace Oo
open PySem PySem.Spec PyProof.Rows L2 PySem.W HT
section
variable {α : Type}
def bnds (lo hi : Option Int) (c : Int) (n : Nat) : Int × Int := Builtin.Slice.sliceAdjust lo hi c n
def places (lo hi : Option Int) (c : Int) (n : Nat) : Nat := Builtin.Slice.slicePlaces (bnds lo hi c n).1 (bnds lo hi c n).2 c
/-- the places of a slice with a step, in order -/
def pickT (xs : List α) (lo hi : Option Int) (c : Int) : List α := (List.range (places lo hi c xs.length)).filterMap fun (m : Nat) => xs[((bnds lo hi c xs.length).1 + (m : Int) * c).toNat]?
end
theorem pickT_map {α β : Type} (f : α → β) (xs : List α) (lo hi : Option Int) (c : Int) : pickT (xs.map f) lo hi c = (pickT xs lo hi c).map f := by
  unfold pickT
  rw [List.map_filterMap, List.length_map]
  refine congrArg (fun g => List.filterMap g _) (funext fun m => ?_)
  rw [List.getElem?_map]
section
variable {prog : Program} {w : World} {A : Around} {E : Value → Shared → Prop} {s : Shared}
theorem applied_st {sl : Addr} {vl vu vs : Value} {lo hi : Option Int} {c : Int} {n : Nat} {Q : Int × Int × Nat → Shared → Prop} (hs : s.heap.IsSliceOf sl vl vu vs) (pl : IsPart vl lo) (pu : IsPart vu hi) (ps : IsPart vs (some c)) (h0 : c ≠ 0)
    (h : Q ((bnds lo hi c n).1, c, places lo hi c n) s) : wpAny (model prog w) A (Builtin.Slice.sliceApplied (.ref sl) (pure (n : Int))) Q E s := by
  obtain ⟨o, e1, e2, e3⟩ := id hs
  unfold Builtin.Slice.sliceApplied Builtin.Slice.sliceFields
  refine wpAny_bind (wpAny_bind (wpAny_field e1 e3 (x := vl) rfl (wpAny_bind (wpAny_field e1 e3 (x := vu) rfl (wpAny_bind (wpAny_field e1 e3 (x := vs) rfl (wpAny_pure ?_)))))))
  refine wpAny_bind (slicePart_ ps ?_)
  have q : ¬ (((some c).getD 1 == 0) = true) := by
    intro z
    exact h0 (eq_of_beq (show (c == 0) = true from z))
  rw [if_neg q]
  exact wpAny_bind (slicePart_ pl (wpAny_bind (slicePart_ pu (wpAny_bind (wpAny_pure (wpAny_pure h))))))
theorem getItem_st {t sl : Addr} {its : List Value} {vl vu vs : Value} {lo hi : Option Int} {c : Int} {Q : Value → Shared → Prop} (ht : IsTup s.heap t its.toArray) (hs : s.heap.IsSliceOf sl vl vu vs) (pl : IsPart vl lo) (pu : IsPart vu hi) (ps : IsPart vs (some c)) (h0 : c ≠ 0) (h1 : c ≠ 1)
    (hz : (pickT its lo hi c).length ≤ sizeLine) (h : Q (.ref s.heap.objs.size) { s with heap := s.heap.push { cls := .type "tuple", data := .seq (pickT its lo hi c).toArray } }) : wpAny (model prog w) A (getItem (.ref t) (.ref sl)) Q E s := by
  have ok : sizeOk (.seq (pickT its lo hi c).toArray) := by
    show (pickT its lo hi c).toArray.size ≤ sizeLine
    rw [List.size_toArray]
    exact hz
  obtain ⟨o, e1, e2, e3⟩ := id hs
  have kind : s.TypeIs (.ref sl) "slice" := ⟨o, e1, e2⟩
  unfold getItem
  try with_reducible refine wpAny_holding ?_
  first | refine wpAny_bind (wpAny_pure ?_) | skip
  refine wpAny_bind (wpAny_sequenceKey ht.typeIs (by decide) ?_)
  refine wpAny_bind (wpAny_callSpecial?_slot (name := Str.ofString "__getitem__") ht.typeIs PyProof.Rows.slot_tuple_getitem (wpAny_call_entry PyProof.Rows.slot_tuple_getitem ht.typeIs entry_tuple_getitem ?_ (args_tuple_getitem _ _)))
  show wpAny _ _ (Builtin.Tuple.tupleItemsOf (.ref t) >>= _) _ _ s
  refine wpAny_bind (tupleItemsOf_ ht (wpAny_bind (wpAny_typeOf kind ?_)))
  rw [if_pos (by decide)]
  refine wpAny_bind (applied_st (n := its.toArray.size) hs pl pu ps h0 ?_)
  have nw : ¬ (((bnds lo hi c its.toArray.size).1 == 0 && c == 1 && places lo hi c its.toArray.size == its.toArray.size) = true) := by
    intro z
    obtain ⟨z, _⟩ := Bool.and_eq_true_iff.mp z
    obtain ⟨_, z⟩ := Bool.and_eq_true_iff.mp z
    exact h1 (eq_of_beq z)
  show wpAny _ _ (if ((bnds lo hi c its.toArray.size).1 == 0 && c == 1 && places lo hi c its.toArray.size == its.toArray.size) = true then _ else _) _ _ s
  rw [if_neg nw]
  have e : ((List.range (places lo hi c its.toArray.size)).filterMap fun (m : Nat) => its.toArray[((bnds lo hi c its.toArray.size).1 + (m : Int) * c).toNat]?).toArray = (pickT its lo hi c).toArray := by
    unfold pickT
    rw [List.size_toArray]
    refine congrArg List.toArray (congrArg (fun g => List.filterMap g _) (funext fun m => ?_))
    rw [List.getElem?_toArray]
  rw [e]
  first
    | exact wpAny_bind (m := Builtin.Tuple.tupleExact _) (wpAny_newObj_type (wpAny_pure ⟨_, rfl, wpAny_pure h⟩) ok)
    | exact wpAny_bind (m := Builtin.Tuple.tupleExact _) (wpAny_newObj_type (wpAny_bind (wpAny_pure (wpAny_pure ⟨_, rfl, wpAny_pure h⟩))) ok)
    | exact wpAny_bind (wpAny_bind (m := Builtin.Tuple.tupleExact _) (wpAny_newObj_type (wpAny_pure (wpAny_pure ⟨_, rfl, wpAny_pure h⟩)) ok))
    | exact wpAny_bind (wpAny_bind (m := Builtin.Tuple.tupleExact _) (wpAny_newObj_type (wpAny_pure ⟨_, rfl, wpAny_pure h⟩) ok))
end
section
variable {X : Cx}
/-- t[sl] by values: sl a slice object without a step, or with one that is not 0 and not 1 -/
def rTSl (K : Frag) : R2 := fun x y H Q => ∃ a sl xs lo hi st, x = .ref a ∧ y = .ref sl ∧ SqT K H a xs ∧ H sl = some (SlcO sl lo hi st) ∧ xs.length ≤ 1000 ∧
  ((st = none ∧ (HT.sIx xs.length 0 lo = 0 ∧ HT.sIx xs.length xs.length hi = xs.length → Q (.ref a) H) ∧ (¬ (HT.sIx xs.length 0 lo = 0 ∧ HT.sIx xs.length xs.length hi = xs.length) → ∀ p, H p = none → Q (.ref p) (upd H p (.tup (cutV xs lo hi))))) ∨
   (∃ c, st = some c ∧ c ≠ 0 ∧ c ≠ 1 ∧ (pickT xs lo hi c).length ≤ 1000 ∧ ∀ p, H p = none → Q (.ref p) (upd H p (.tup (pickT xs lo hi c)))))
theorem vals_pick {xs : List V} {its : List Value} (r : Vals xs its) (lo hi : Option Int) (c : Int) : Vals (pickT xs lo hi c) (pickT its lo hi c) := by
  unfold pickT
  rw [r.length]
  generalize places lo hi c its.length = n
  generalize (bnds lo hi c its.length).1 = b
  induction List.range n with
  | nil => exact .nil
  | cons m l ih =>
    cases e : xs[(b + (m : Int) * c).toNat]? with
    | none =>
      have e2 : its[(b + (m : Int) * c).toNat]? = none := by
        rw [List.getElem?_eq_none_iff] at e ⊢
        rw [← r.length]; exact e
      simp only [List.filterMap_cons, e, e2]
      exact ih
    | some z =>
      obtain ⟨u, hu, ru⟩ := r.get e
      simp only [List.filterMap_cons, e, hu]
      exact .cons ru ih
theorem ix_tsl : IxR X (rTSl X.K) := by
  intro value slice pins s σ H x y v u Q I rx ry h hsub
  obtain ⟨a, sl, xs, lo, hi, st, rfl, rfl, hx, hsl, hz, k⟩ := h
  obtain rfl : v = Value.ref a := rx
  obtain rfl : u = Value.ref sl := ry
  obtain ⟨⟨vl, vu, vs, is, pl, pu, ps⟩, _, _⟩ := I.hok sl _ hsl
  rcases k with ⟨rfl, k1, k2⟩ | ⟨c, rfl, h0, h1, hp, k⟩
  · cases ps
    obtain ⟨T, id, hT, ht, hg⟩ := sl_tupA pins s σ H (.ref a) (.ref a) vl vu lo hi sl Q I rfl is pl pu ⟨a, xs, rfl, hx, k1, k2⟩
    exact tail_any (ops := [.ref a, .ref sl]) ht hT hg hsub
  · obtain ⟨its, r, ht, _⟩ := I.tuple hx
    have rp := vals_pick r lo hi c
    refine tail_any (ops := [.ref a, .ref sl]) ht.typeIs PyProof.Rows.slot_tuple_getitem.lookup (getItem_st ht is pl pu ps h0 h1 (by rw [← rp.length, sizeLine_eq]; omega) ?_) hsub
    refine ⟨.ref s.heap.objs.size, _, I.laid (t' := s.toks) (o := .tup (pickT xs lo hi c)) (fun b ob q => Heap.get?_push_of_some _ q) (Nat.le_refl _) ?_, rfl, k _ (I.hok.fresh (Nat.le_refl _))⟩
    exact ⟨by rw [sizeLine_eq]; omega, _, rp, ⟨_, Heap.get?_push_size _ rfl, rfl, _, rfl⟩⟩
end
end Oo
set_option Elab.async false
set_option linter.all false
set_option maxRecDepth 100000
set_option maxHeartbeats 1000000
/-! Lot: items and slices. -/
namespace K7
open PySem PySem.Spec PyProof.Rows L2 RV EV He EF EI
section
variable {P : Program} {w : World} {K : PySem.W.Frag} {mg : Str → Option Value} {base : Heap}
abbrev scGt_N : List Str := ["self", "at", "found"]
theorem scGt : FnScope scGt_N ["self", "at"] (defScope (lSt 9)) := ⟨rfl, rfl, rfl, by decide +kernel, rfl, by decide +kernel, by decide +kernel⟩
/-- what a slice of names is -/
def resS (ns : List Str) (lo hi : Option Int) : Option Int → List Str
  | none => (ns.drop (HT.sIx ns.length 0 lo)).take (HT.sIx ns.length ns.length hi - HT.sIx ns.length 0 lo)
  | some c => Oo.pickT ns lo hi c
def spGtL (K : PySem.W.Frag) : Sp := fun vs H Q E => ∃ p ns y, vs = [.ref p, y] ∧ IsLot K H p ns ∧ ((∃ i z, y = .int i ∧ atI ns i = some z ∧ Q (.str z) H) ∨
  (∃ sl lo hi st, y = .ref sl ∧ H sl = some (Oo.SlcO sl lo hi st) ∧ (st = none ∨ ∃ c, st = some c ∧ c ≠ 0 ∧ c ≠ 1) ∧ (resS ns lo hi st).length ≤ 1000 ∧ ∀ H', Same H H' → MkLot K ((resS ns lo hi st).map V.str) H' Q E))
theorem atI_map {α β : Type} (f : α → β) (xs : List α) (i : Int) : atI (xs.map f) i = (atI xs i).map f := by
  unfold atI
  simp only [List.length_map, List.getElem?_map]
  cases ixN xs.length i <;> rfl
theorem cutV_map (ns : List Str) (lo hi : Option Int) : cutV (ns.map V.str) lo hi = (resS ns lo hi none).map V.str := by
  unfold cutV resS
  rw [List.length_map, List.map_take, List.map_drop]
theorem ok_gtL (T : KF P w K mg base) {fd : FuncData} (F : FunD K "__getitem__" "Lot.__getitem__" (defArgs (lSt 9)) (defBody (lSt 9)) (defScope (lSt 9)) [] [] (lAd K "__getitem__") fd) : FnOk P w K mg base (L2.CX P w) 6 (lAd K "__getitem__") fd ["self", "at"] (spGtL K) := by
  refine F.ok scGt (fun vs H Q E h => ?_) (fun cdv A outer s H vs Q E hr h => ?_)
  · obtain ⟨p, ns, y, rfl, _⟩ := h
    rfl
  · obtain ⟨p, ns, y, rfl, ⟨dx, tp, O⟩, k⟩ := h
    refine ⟨_, pss_cons (ps_set (i := 2) scGt.nd rfl (.inl rfl) (pe_ix (ix_tup.or Oo.ix_tsl) (pe_fld (pv 0) rfl) (pv 1) (fun _ _ => rfl)))
      (pss_one (ps_ret (pe_ifExp (pt_val (pe_callB call_isi (by rfl) (T.fr "isinstance" (by decide)) PyProof.Rows.boot_isinstance (pa_cons (pv 2) (pa_cons (pe_bltn (v := .ty "tuple") (by rfl) (T.fr "tuple" (by decide)) boot_T rfl) pa_nil))))
        (Oo.pe_newS (E := E) T.mko (ok_li T) (hr.mono (by decide)) (by rfl) T.go (passes_call (takes_of rfl rfl rfl rfl) fun _ _ _ _ h => h) (pv 2)) (pv 2)))), ?_⟩
    have tup : ∀ (q : Addr) (ms : List Str) (H1 : Hp), H1 q = some (.tup (ms.map V.str)) → MkLot K (ms.map V.str) H1 Q E →
        tRet (tIf (tB (tCB (rIsi K) (tCons (tVar 2) (tCons (tC (V.ty "tuple")) tNil)))) (Oo.tStarNew K (gO K) (spStar (spLi K)) E (tVar 2)) (tVar 2)) { nx := fun _ H' => Q .non H', rt := Q } [some (.ref p), some y, some (.ref q)] H1 := by
      intro q ms H1 e m
      refine ⟨_, rfl, .ref q, .ty "tuple", _, _, true, rfl, .ty _, .base (.tup e), kit_ty (by decide +kernel), true, rfl, if_posB rfl ?_⟩
      exact ⟨_, rfl, q, _, rfl, .inl (SqT.of e), new_of m⟩
    rcases k with ⟨i, z, rfl, hz, k⟩ | ⟨sl, lo, hi, st, rfl, hsl, hst, hz, k⟩
    · refine ⟨_, rfl, p, gO K, dx, _, _, rfl, O.ob, T.clo, T.noF, rfl, _, rfl, .inl ⟨tp, _, i, .str z, rfl, rfl, SqT.of O.ps, by rw [atI_map, hz]; rfl, ?_⟩⟩
      refine ⟨_, rfl, .str z, .ty "tuple", _, _, false, rfl, .ty _, .base (.str z), kit_ty (by decide +kernel), false, rfl, if_negB rfl ⟨_, rfl, k⟩⟩
    · have lz : (ns.map V.str).length = ns.length := List.length_map _
      have le8 := O.le
      refine ⟨_, rfl, p, gO K, dx, _, _, rfl, O.ob, T.clo, T.noF, rfl, _, rfl, .inr ⟨tp, sl, _, lo, hi, st, rfl, rfl, SqT.of O.ps, hsl, by rw [lz]; omega, ?_⟩⟩
      rcases hst with rfl | ⟨c, rfl, h0, h1⟩
      · refine .inl ⟨rfl, fun hw => ?_, fun hw q nq => ?_⟩
        · have e : resS ns lo hi none = ns := by
            rw [lz] at hw
            unfold resS
            rw [hw.1, hw.2, List.drop_zero, Nat.sub_zero, List.take_of_length_le (Nat.le_refl _)]
          have k0 := k H fun _ _ e => e
          rw [e] at k0
          exact tup tp ns H O.ps k0
        · rw [cutV_map]
          exact tup q _ _ upd_same (k _ (same_new nq))
      · refine .inr ⟨c, rfl, h0, h1, by rw [Oo.pickT_map, List.length_map]; exact hz, fun q nq => ?_⟩
        rw [Oo.pickT_map]
        exact tup q _ _ upd_same (k _ (same_new nq))
end
end K7
set_option Elab.async false
set_option linter.all false
set_option maxRecDepth 100000
set_option maxHeartbeats 1000000
/-! Lot: the four signs. -/
namespace K7
open PySem PySem.Spec PyProof.Rows L2 RV EV He EF EI
section
variable {P : Program} {w : World} {K : PySem.W.Frag} {mg : Str → Option Value} {base : Heap}
/-- those that are in the other one, or are not -/
def sift (ns ms : List Str) (b : Bool) : List Str := ns.filter fun x => decide (x ∈ ms) == b
def NewL (K : PySem.W.Frag) (Q : VK) (ns : List Str) (H' : Hp) : Prop := ∀ H2 r dx tp, Same H' H2 → LO K H2 r dx tp ns → Q (.ref r) H2
theorem asc_sift {ns ms : List Str} {b : Bool} (h : Asc ns) : Asc (sift ns ms b) := List.Pairwise.filter _ h
def spSi (K : PySem.W.Frag) : Sp := fun vs H Q _ => ∃ p q b ns ms, vs = [.ref p, .ref q, .bl b] ∧ IsLot K H p ns ∧ IsLot K H q ms ∧ NewL K Q (sift ns ms b) H
abbrev ttSi (K : PySem.W.Frag) : TT := tTest (tOp rEq (tOp (rIn K false) (tVar 3) (tFld K (tVar 1) "fixes")) (tVar 2))
abbrev scSi_N : List Str := ["self", "other", "is_in", "fix"]
theorem scSi : FnScope scSi_N ["self", "other", "is_in"] (defScope (lSt 18)) := ⟨rfl, rfl, rfl, by decide +kernel, rfl, by decide +kernel, by decide +kernel⟩
theorem new_sift {H : Hp} {Q : VK} {E : XK} {ns : List Str} (h8 : ns.length ≤ 8) (ha : Asc ns) (hf : ∀ x ∈ ns, isFixB x = true) (k : NewL K Q ns H) : ∀ H', Same H H' → MkLot K (ns.map V.str) H' Q E := fun H' s' =>
  .good (by omega) hf fun H1 s1 => ⟨fun _ H2 p dx tp s2 o => k H2 p dx tp ((s'.trans s1).trans s2) (by rw [← lined_asc ha]; exact o), fun h => by rw [lined_asc ha] at h; omega⟩
theorem ok_si (T : KF P w K mg base) {fd : FuncData} (F : FunD K "sifted" "Lot.sifted" (defArgs (lSt 18)) (defBody (lSt 18)) (defScope (lSt 18)) [] [] (lAd K "sifted") fd) : FnOk P w K mg base (L2.CX P w) 7 (lAd K "sifted") fd ["self", "other", "is_in"] (spSi K) := by
  obtain ⟨fo, Fo⟩ := T.fo
  have bo : L2.Binds K fo ["fixes"] [] := FunD.bindsN Fo fun _ _ _ _ _ _ us hl => match us, hl with | [_], _ => rfl
  have Go := Oo.FnOk.r0 (ok_of T Fo) bo
  refine F.ok scSi (fun vs H Q E h => ?_) (fun cdv A outer s H vs Q E hr h => ?_)
  · obtain ⟨p, q, b, ns, ms, rfl, _⟩ := h
    rfl
  · obtain ⟨p, q, b, ns, ms, rfl, ⟨dx, tp, O⟩, ⟨dy, tq, O2⟩, k⟩ := h
    refine ⟨_, pss_one (ps_ret (Oo.pe_smeth (E := E) (pe_glob (v := .ref (gO K)) (by rfl) T.go rfl) (cread T) (smet T) Go hr (passes_call (takes_of rfl rfl rfl rfl) fun _ _ _ _ h => h)
      (pa_cons (pe_lc (own := [("fix", 3)]) (g := gName 3) (tt := ttSi K) (te := tVar 3) rfl scSi.nd (pi_tup (pe_fld (pv 0) rfl)) (blkOk_by (N := scSi_N) (sc := defScope (lSt 18)) (by decide +kernel)) (fun _ _ _ _ _ => pg_name (i := 3) scSi.nd rfl (.inl rfl))
        (fun _ _ _ _ _ => pts_one (pt_cmpR op_eq (pe_cmpR op_in_seq (pv 3) (pe_fld (pv 1) rfl) rfl) (pv 2) (nomark _))) (fun _ _ _ _ _ => pv 3)) pa_nil))), ?_⟩
    refine ⟨rfl, _, rfl, p, gO K, dx, _, _, rfl, O.ob, T.clo, T.noF, rfl, tp, rfl, ⟨_, SqT.of O.ps⟩, fun D nD => ?_⟩
    refine lc_it (walk_tup (xs := ns.map V.str)) (fun i H' => Same H H' ∧ H' D = some (.lst ((sift (ns.take i) ms b).map V.str))) ⟨fun c u e => by rw [upd_ne (ne_of_none e nD)]; exact e, upd_same⟩ (fun i H' _ z => SqT.of (z.1 _ _ O.ps)) ?_ ?_
    · rintro i x H1 H2 hi ⟨s1, hD⟩ ⟨rfl, hx⟩
      rw [List.getElem?_map] at hx
      cases e : ns[i]? with
      | none => rw [e] at hx; exact nomatch hx
      | some z =>
        rw [e] at hx
        obtain rfl : V.str z = x := Option.some.inj hx
        obtain ⟨hl, hv⟩ := List.getElem?_eq_some_iff.mp e
        have O2' := O2.same s1
        have more : ns.take (i + 1) = ns.take i ++ [z] := by rw [← hv]; exact List.take_succ_eq_append_getElem hl
        refine ⟨rfl, _, rfl, _, rfl, q, gO K, dy, _, _, rfl, O2'.ob, T.clo, T.noF, rfl, tq, _, rfl, .inr (SqT.of O2'.ps), rfl, flat_strs ms, _, rfl, rfl, _, rfl, ?_⟩
        have ec : decide (V.bl (inV (.str z) (ms.map V.str)) = V.bl b) = (decide (z ∈ ms) == b) := by
          rw [inV_str]
          cases decide (z ∈ ms) <;> cases b <;> rfl
        show if decide (V.bl (inV (.str z) (ms.map V.str)) = V.bl b) = true then _ else _
        rw [ec]
        have es : sift (ns.take (i + 1)) ms b = sift (ns.take i) ms b ++ (if (decide (z ∈ ms) == b) = true then [z] else []) := by
          unfold sift
          rw [more, List.filter_append]
          congr 1
          by_cases h : (decide (z ∈ ms) == b) = true
          · rw [if_pos h, List.filter_cons, if_pos h, List.filter_nil]
          · rw [if_neg h, List.filter_cons, if_neg h, List.filter_nil]
        have le8 := O.le
        by_cases h : (decide (z ∈ ms) == b) = true
        · rw [if_pos h] at es ⊢
          refine ⟨_, rfl, _, hD, ?_, fun c u e2 => ?_, ?_⟩
          · have l1 : (sift (ns.take i) ms b).length ≤ (ns.take i).length := List.length_filter_le _ _
            rw [List.length_take] at l1
            rw [List.length_map, sizeLine_eq]
            omega
          · rw [upd_ne (ne_of_none e2 nD)]
            exact s1 c u e2
          · rw [upd_same, es, List.map_append]
            rfl
        · rw [if_neg h] at es ⊢
          rw [List.append_nil] at es
          exact ⟨s1, by rw [es]; exact hD⟩
    · rintro H1 ⟨s1, hD⟩
      rw [List.length_map, List.take_of_length_le (Nat.le_refl _)] at hD
      refine ⟨_, rfl, .inl ⟨_, ⟨D, rfl, .inl hD⟩, new_sift (Nat.le_trans (List.length_filter_le _ _) O.le) (asc_sift O.asc) (fun x hx => O.fx x ((List.mem_filter.mp hx).1)) fun H2 r dz tz s2 o => k H2 r dz tz (s1.trans s2) o⟩⟩
end
end K7
set_option Elab.async false
set_option linter.all false
set_option maxRecDepth 100000
set_option maxHeartbeats 1000000
/-! Lot: or, and, sub, xor. -/
namespace K7
open PySem PySem.Spec PyProof.Rows L2 RV EV He EF EI
section
variable {P : Program} {w : World} {K : PySem.W.Frag} {mg : Str → Option Value} {base : Heap}
/-- the other one: a lot, or something that is none -/
def Other (K : PySem.W.Frag) (H : Hp) (E : XK) (v : V) (R : Addr → List Str → Hp → Prop) : Prop :=
  (∃ q ms, v = .ref q ∧ IsLot K H q ms ∧ R q ms H) ∨ ((∃ t ∈ besT, TyX K H v (.type t)) ∧ Bad1 (ga K "BadLot") "part" H E (.str "other"))
def spBin (K : PySem.W.Frag) (R : List Str → List Str → VK → XK → Hp → Prop) : Sp := fun vs H Q E => ∃ p ns v, vs = [.ref p, v] ∧ IsLot K H p ns ∧ Other K H E v fun _ ms H' => R ns ms Q E H'
abbrev tTwo (K : PySem.W.Frag) (E : XK) : TS := tIfS (tNot (tB (tCB (rIsi K) (tCons (tVar 1) (tCons (tC (V.ref (gO K))) tNil))))) (tRaise1 (ga K "BadLot") "part" (tC (V.str "other")) fun cls d x H => E cls d H) tNext
theorem two_read (T : KF P w K mg base) {s0 v : V} {H : Hp} {E : XK} {D : Ends} {R : Addr → List Str → Hp → Prop} (o : Other K H E v R) (k : ∀ q ms, v = .ref q → IsLot K H q ms → R q ms H → D.nx [some s0, some v] H) : tTwo K E D [some s0, some v] H := by
  rcases o with ⟨q, ms, rfl, ⟨dy, tq, O2⟩, r⟩ | ⟨⟨t, ht, ty⟩, bd⟩
  · exact ⟨_, rfl, .ref q, .ref (gO K), _, _, true, rfl, .own _, ty_lot T O2.ob, kit_lot T, true, rfl, if_negB rfl (k q ms rfl ⟨dy, tq, O2⟩ r)⟩
  · exact ⟨_, rfl, v, .ref (gO K), _, _, false, rfl, .own _, ty, kit_bes T ht, false, rfl, if_posB rfl (mkb1 bd)⟩
abbrev scB_N : List Str := ["self", "other"]
theorem scOr : FnScope scB_N ["self", "other"] (defScope (lSt 10)) := ⟨rfl, rfl, rfl, by decide +kernel, rfl, by decide +kernel, by decide +kernel⟩
theorem scAn : FnScope scB_N ["self", "other"] (defScope (lSt 11)) := ⟨rfl, rfl, rfl, by decide +kernel, rfl, by decide +kernel, by decide +kernel⟩
theorem scSu : FnScope scB_N ["self", "other"] (defScope (lSt 12)) := ⟨rfl, rfl, rfl, by decide +kernel, rfl, by decide +kernel, by decide +kernel⟩
theorem scXo : FnScope scB_N ["self", "other"] (defScope (lSt 13)) := ⟨rfl, rfl, rfl, by decide +kernel, rfl, by decide +kernel, by decide +kernel⟩
theorem len2 {R : List Str → List Str → VK → XK → Hp → Prop} : ∀ vs H Q E, spBin K R vs H Q E → vs.length = (["self", "other"] : List Str).length := by
  rintro vs H Q E ⟨p, ns, v, rfl, _⟩
  rfl
theorem ok_or (T : KF P w K mg base) {fd : FuncData} (F : FunD K "__or__" "Lot.__or__" (defArgs (lSt 10)) (defBody (lSt 10)) (defScope (lSt 10)) [] [] (lAd K "__or__") fd) : FnOk P w K mg base (L2.CX P w) 7 (lAd K "__or__") fd ["self", "other"] (spBin K fun ns ms Q E H => ∀ H', Same H H' → LotR K E Q (ns ++ ms) H') := by
  obtain ⟨fo, Fo⟩ := T.fo
  have bo : L2.Binds K fo ["fixes"] [] := FunD.bindsN Fo fun _ _ _ _ _ _ us hl => match us, hl with | [_], _ => rfl
  have Go := Oo.FnOk.r0 (ok_of T Fo) bo
  refine F.ok scOr len2 (fun cdv A outer s H vs Q E hr h => ?_)
  obtain ⟨p, ns, v, rfl, ⟨dx, tp, O⟩, o⟩ := h
  refine ⟨_, pss_cons (ps_if (pt_not (pt_val (pe_callB call_isi (by rfl) (T.fr "isinstance" (by decide)) PyProof.Rows.boot_isinstance (pa_cons (pv 1) (pa_cons (pe_glob (v := .ref (gO K)) (by rfl) T.go rfl) pa_nil)))))
      (pss_one (ps_raise1 T.bl (hr.mono (by decide)) rfl (takes_of rfl rfl rfl rfl) (by rfl) pe_str)) pss_nil)
    (pss_one (ps_ret (Oo.pe_smeth (E := E) (pe_glob (v := .ref (gO K)) (by rfl) T.go rfl) (cread T) (smet T) Go hr (passes_call (takes_of rfl rfl rfl rfl) fun _ _ _ _ h => h)
      (pa_cons (pe_lst (StX.pa_star (pe_fld (pv 0) rfl) (StX.pa_star (pe_fld (pv 1) rfl) pa_nil))) pa_nil)))), ?_⟩
  refine two_read T o fun q ms ev l2 r => ?_
  subst ev
  obtain ⟨dy, tq, O2⟩ := l2
  have l1 := O.le
  have l2 := O2.le
  refine ⟨rfl, _, rfl, p, gO K, dx, _, _, rfl, O.ob, T.clo, T.noF, rfl, tp, _, rfl, .inl (SqT.of O.ps), _, rfl, q, gO K, dy, _, _, rfl, O2.ob, T.clo, T.noF, rfl, tq, _, rfl, .inl (SqT.of O2.ps), ?_, fun l nl => ?_⟩
  · rw [List.append_nil, List.length_append, List.length_map, List.length_map, sizeLine_eq]
    omega
  · rw [List.append_nil, ← List.map_append]
    refine ⟨_, rfl, .inl ⟨_, ⟨l, rfl, .inl upd_same⟩, fun H' s' => .good (by rw [List.length_append]; omega) (fun x hx => (List.mem_append.mp hx).elim (O.fx x) (O2.fx x)) fun H2 s2 => r H2 ((same_new nl).trans (s'.trans s2))⟩⟩
/-- and, minus -/
theorem ok_sel (T : KF P w K mg base) {fd : FuncData} {i : Nat} {m : Str} {b : Bool} (F : FunD K m ("Lot." ++ m) (defArgs (lSt i)) (defBody (lSt i)) (defScope (lSt i)) [] [] (lAd K m) fd) (sc : FnScope scB_N ["self", "other"] (defScope (lSt i)))
   (hcode : ∀ (cdv : Value) (A : Around) (outer : List Env) (s : Shared) (H : Hp) (E : XK), Room 7 (A.deeper (envOfC ("Lot." ++ m) (defScope (lSt i)) s.heap.objs.size (lAd K m) cdv)) →
     PSs (cxOf (L2.CX P w) P w K mg base scB_N ("Lot." ++ m) (defScope (lSt i)) (lAd K m) cdv A outer s H E) (defBody (lSt i)) (tSeq (tTwo K E) (tRet (tMeth (gO K) "sifted" (spSi K) [] E (tVar 0) (tCons (tVar 1) (tCons (tC (.bl b)) tNil)))))) :
   FnOk P w K mg base (L2.CX P w) 8 (lAd K m) fd ["self", "other"] (spBin K fun ns ms Q E H => ∀ H', Same H H' → NewL K Q (sift ns ms b) H') := by
  refine F.ok sc len2 (fun cdv A outer s H vs Q E hr h => ?_)
  obtain ⟨p, ns, v, rfl, ⟨dx, tp, O⟩, o⟩ := h
  refine ⟨_, hcode cdv A outer s H E hr, ?_⟩
  refine two_read T o fun q ms ev l2 r => ?_
  subst ev
  refine ⟨_, rfl, p, dx, _, rfl, O.ob, rfl, _, rfl, ?_⟩
  exact ⟨p, q, b, ns, ms, rfl, ⟨dx, tp, O⟩, l2, r H fun _ _ e => e⟩
theorem ok_an (T : KF P w K mg base) {fd : FuncData} (F : FunD K "__and__" "Lot.__and__" (defArgs (lSt 11)) (defBody (lSt 11)) (defScope (lSt 11)) [] [] (lAd K "__and__") fd) : FnOk P w K mg base (L2.CX P w) 8 (lAd K "__and__") fd ["self", "other"] (spBin K fun ns ms Q E H => ∀ H', Same H H' → NewL K Q (sift ns ms true) H') := by
  obtain ⟨_, fs, Fs⟩ := T.lot ("sifted", 18) (by decide)
  have bs : L2.Binds K fs ["self", "other", "is_in"] [] := FunD.bindsN Fs fun _ _ _ _ _ _ us hl => match us, hl with | [_, _, _], _ => rfl
  exact ok_sel T F scAn fun cdv A outer s H E hr => pss_cons (ps_if (pt_not (pt_val (pe_callB call_isi (by rfl) (T.fr "isinstance" (by decide)) PyProof.Rows.boot_isinstance (pa_cons (pv 1) (pa_cons (pe_glob (v := .ref (gO K)) (by rfl) T.go rfl) pa_nil)))))
      (pss_one (ps_raise1 T.bl (hr.mono (by decide)) rfl (takes_of rfl rfl rfl rfl) (by rfl) pe_str)) pss_nil)
    (pss_one (ps_ret (pe_meth (E := E) (pv 0) T.clo (lm T ("sifted", 18) (by decide)) (ok_si T Fs) hr bs .nil (passes_call (takes_of rfl rfl rfl rfl) fun _ _ _ _ h => h) (pa_cons (pv 1) (pa_cons pe_bl pa_nil)))))
theorem ok_su (T : KF P w K mg base) {fd : FuncData} (F : FunD K "__sub__" "Lot.__sub__" (defArgs (lSt 12)) (defBody (lSt 12)) (defScope (lSt 12)) [] [] (lAd K "__sub__") fd) : FnOk P w K mg base (L2.CX P w) 8 (lAd K "__sub__") fd ["self", "other"] (spBin K fun ns ms Q E H => ∀ H', Same H H' → NewL K Q (sift ns ms false) H') := by
  obtain ⟨_, fs, Fs⟩ := T.lot ("sifted", 18) (by decide)
  have bs : L2.Binds K fs ["self", "other", "is_in"] [] := FunD.bindsN Fs fun _ _ _ _ _ _ us hl => match us, hl with | [_, _, _], _ => rfl
  exact ok_sel T F scSu fun cdv A outer s H E hr => pss_cons (ps_if (pt_not (pt_val (pe_callB call_isi (by rfl) (T.fr "isinstance" (by decide)) PyProof.Rows.boot_isinstance (pa_cons (pv 1) (pa_cons (pe_glob (v := .ref (gO K)) (by rfl) T.go rfl) pa_nil)))))
      (pss_one (ps_raise1 T.bl (hr.mono (by decide)) rfl (takes_of rfl rfl rfl rfl) (by rfl) pe_str)) pss_nil)
    (pss_one (ps_ret (pe_meth (E := E) (pv 0) T.clo (lm T ("sifted", 18) (by decide)) (ok_si T Fs) hr bs .nil (passes_call (takes_of rfl rfl rfl rfl) fun _ _ _ _ h => h) (pa_cons (pv 1) (pa_cons pe_bl pa_nil)))))
end
end K7
set_option Elab.async false
set_option linter.all false
set_option maxRecDepth 100000
set_option maxHeartbeats 1000000
/-! Lot: xor, the orders. -/
namespace K7
open PySem PySem.Spec PyProof.Rows L2 RV EV He EF EI
section
variable {P : Program} {w : World} {K : PySem.W.Frag} {mg : Str → Option Value} {base : Heap}
theorem lackF (T : KF P w K mg base) {m : Str} (h : m ∈ lacks) : PySem.W.findIn K (.ref (gO K)) m = some none := by
  obtain ⟨_, z⟩ := ba T.l2
  exact eqO_ok (List.all_eq_true.mp (ba z).1 m h)
theorem besF (T : KF P w K mg base) : ∀ t ∈ Oo.kindsT, PySem.W.subIn K (.type t) (.ref (gO K)) = some false := fun t h => of_decide_eq_true (List.all_eq_true.mp (ba T.l2).1 t h)
theorem selfF (T : KF P w K mg base) : PySem.W.selfFirst K (gO K) = true := by
  obtain ⟨_, h⟩ := ba T.l1
  obtain ⟨_, h⟩ := ba h
  exact (ba h).1
theorem mroF (T : KF P w K mg base) : ((PySem.W.clsIn K (gO K)).any fun cd => decide (cd.mro = [.ref (gO K), .type "object"])) = true := by
  obtain ⟨_, h⟩ := ba T.l1
  obtain ⟨_, h⟩ := ba h
  obtain ⟨_, h⟩ := ba h
  exact (ba h).2
theorem noseqF (T : KF P w K mg base) : PySem.W.noSeq K (gO K) = true := by
  obtain ⟨_, h⟩ := ba T.l1
  obtain ⟨_, h⟩ := ba h
  obtain ⟨_, h⟩ := ba h
  exact (ba h).1
theorem objF (T : KF P w K mg base) : PySem.W.mroIn K (gO K) (.type "object") = some true := by
  obtain ⟨_, h⟩ := ba T.l1
  exact of_decide_eq_true (ba h).1
theorem neF (T : KF P w K mg base) : PySem.W.findIn K (.ref (gO K)) "__ne__" = some (some (.builtin "object.__ne__")) := by
  obtain ⟨_, z⟩ := ba T.l2
  exact eqO_ok (ba z).2
theorem opc (T : KF P w K mg base) {nm : String} {m : Str} {i : Nat} (hm : (m, i) ∈ lotN) (e1 : PySem.dunder nm = m) (h2 : dunderR nm ∈ lacks) (h3 : dunderI nm ∈ lacks) : Oo.OpC K (gO K) (lAd K m) nm :=
  ⟨e1 ▸ lm T (m, i) hm, selfF T, mroF T, lackF T h2, lackF T h3, besF T⟩
theorem opc_or (T : KF P w K mg base) : Oo.OpC K (gO K) (lAd K "__or__") "or" := opc T (i := 10) (by decide) (by decide +kernel) (by decide +kernel) (by decide +kernel)
theorem opc_an (T : KF P w K mg base) : Oo.OpC K (gO K) (lAd K "__and__") "and" := opc T (i := 11) (by decide) (by decide +kernel) (by decide +kernel) (by decide +kernel)
theorem opc_su (T : KF P w K mg base) : Oo.OpC K (gO K) (lAd K "__sub__") "sub" := opc T (i := 12) (by decide) (by decide +kernel) (by decide +kernel) (by decide +kernel)
theorem opc_xo (T : KF P w K mg base) : Oo.OpC K (gO K) (lAd K "__xor__") "xor" := opc T (i := 13) (by decide) (by decide +kernel) (by decide +kernel) (by decide +kernel)
theorem bind2 {m : Str} {i : Nat} {fd : FuncData} (F : FunD K m ("Lot." ++ m) (defArgs (lSt i)) (defBody (lSt i)) (defScope (lSt i)) [] [] (lAd K m) fd) (h : ∀ (dV kV doc pm an cdv ct : Value), True) : True := trivial
theorem ok_xo (T : KF P w K mg base) {fd : FuncData} (F : FunD K "__xor__" "Lot.__xor__" (defArgs (lSt 13)) (defBody (lSt 13)) (defScope (lSt 13)) [] [] (lAd K "__xor__") fd) :
   FnOk P w K mg base (L2.CX P w) 9 (lAd K "__xor__") fd ["self", "other"] (spBin K fun ns ms Q E H => ∀ H', Same H H' → LotR K E Q (sift ns ms false ++ sift ms ns false) H') := by
  obtain ⟨_, fs, Fs⟩ := T.lot ("sifted", 18) (by decide)
  have bs : L2.Binds K fs ["self", "other", "is_in"] [] := FunD.bindsN Fs fun _ _ _ _ _ _ us hl => match us, hl with | [_, _, _], _ => rfl
  obtain ⟨_, fr, Fr⟩ := T.lot ("__or__", 10) (by decide)
  have br : L2.Binds K fr ["self", "other"] [] := FunD.bindsN Fr fun _ _ _ _ _ _ us hl => match us, hl with | [_, _], _ => rfl
  have Gr := Oo.FnOk.r0 (ok_or T Fr) br
  refine F.ok scXo len2 (fun cdv A outer s H vs Q E hr h => ?_)
  obtain ⟨p, ns, v, rfl, ⟨dx, tp, O⟩, o⟩ := h
  refine ⟨_, pss_cons (ps_if (pt_not (pt_val (pe_callB call_isi (by rfl) (T.fr "isinstance" (by decide)) PyProof.Rows.boot_isinstance (pa_cons (pv 1) (pa_cons (pe_glob (v := .ref (gO K)) (by rfl) T.go rfl) pa_nil)))))
      (pss_one (ps_raise1 T.bl (hr.mono (by decide)) rfl (takes_of rfl rfl rfl rfl) (by rfl) pe_str)) pss_nil)
    (pss_one (ps_ret (pe_op (Oo.op_bin (E := E) (opc_or T) (by decide) Gr (hr.mono (by decide)) (passes_call (takes_of rfl rfl rfl rfl) fun _ _ _ _ h => h))
      (pe_meth (E := E) (pv 0) T.clo (lm T ("sifted", 18) (by decide)) (ok_si T Fs) (hr.mono (by decide)) bs .nil (passes_call (takes_of rfl rfl rfl rfl) fun _ _ _ _ h => h) (pa_cons (pv 1) (pa_cons pe_bl pa_nil)))
      (pe_meth (E := E) (pv 1) T.clo (lm T ("sifted", 18) (by decide)) (ok_si T Fs) (hr.mono (by decide)) bs .nil (passes_call (takes_of rfl rfl rfl rfl) fun _ _ _ _ h => h) (pa_cons (pv 0) (pa_cons pe_bl pa_nil)))))), ?_⟩
  refine two_read T o fun q ms ev l2 r => ?_
  subst ev
  refine ⟨_, rfl, p, dx, _, rfl, O.ob, rfl, _, rfl, ?_⟩
  refine ⟨p, q, false, ns, ms, rfl, ⟨dx, tp, O⟩, l2, fun H1 a da ta s1 oa => ?_⟩
  obtain ⟨dy, tq, O2⟩ := l2
  have O2' := O2.same s1
  refine ⟨_, rfl, q, dy, _, rfl, O2'.ob, rfl, _, rfl, ?_⟩
  refine ⟨q, p, false, ms, ns, rfl, ⟨dy, tq, O2'⟩, ⟨dx, tp, O.same s1⟩, fun H2 b db tb s2 ob => ?_⟩
  have oa' := oa.same s2
  refine ⟨a, da, _, _, rfl, oa'.ob, ty_lot T ob.ob, .inl rfl, a, _, .ref b, rfl, ⟨da, ta, oa'⟩, .inl ⟨b, _, rfl, ⟨db, tb, ob⟩, fun H3 s3 => r H3 ((s1.trans s2).trans s3)⟩⟩
/-! <= and >= -/
theorem scLe : FnScope ["self", "other", "fix"] ["self", "other"] (defScope (lSt 14)) := ⟨rfl, rfl, rfl, by decide +kernel, rfl, by decide +kernel, by decide +kernel⟩
theorem scGe : FnScope ["self", "other", "fix"] ["self", "other"] (defScope (lSt 15)) := ⟨rfl, rfl, rfl, by decide +kernel, rfl, by decide +kernel, by decide +kernel⟩
def allIn (ns ms : List Str) : Bool := ns.all fun x => decide (x ∈ ms)
abbrev teIn (K : PySem.W.Frag) (j : Nat) : TE := tOp (rIn K false) (tVar 2) (tFld K (tVar j) "fixes")
abbrev tAll (K : PySem.W.Frag) (i j : Nat) : TE := tCB (rAll K) (tCons (tLc (iTup K (tFld K (tVar i) "fixes")) (gName 2) tYes (teIn K j) [2]) tNil)
theorem all_read (T : KF P w K mg base) {i j : Nat} {σ : L2.St} {p q dx tp dy tq : Addr} {ns ms : List Str} {H : Hp} {Q : VK} (hi : σ[i]? = some (some (.ref p))) (hw : ∀ v, wipe ((wipe σ [2]).set 2 v) [2] = wipe σ [2]) (h2 : ∀ v, ((wipe σ [2]).set 2 (some v))[2]? = some (some v)) (hj : ∀ v, ((wipe σ [2]).set 2 (some v))[j]? = some (some (.ref q)))
    (O : LO K H p dx tp ns) (O2 : LO K H q dy tq ms) (k : ∀ H', Same H H' → Q (.bl (allIn ns ms)) H') : tAll K i j σ H Q := by
  refine ⟨_, hi, p, gO K, dx, _, _, rfl, O.ob, T.clo, T.noF, rfl, tp, rfl, ⟨_, SqT.of O.ps⟩, fun D nD => ?_⟩
  refine lc_it (walk_tup (xs := ns.map V.str)) (fun i H' => Same H H' ∧ H' D = some (.lst (((ns.take i).map fun x => decide (x ∈ ms)).map V.bl))) ⟨fun c u e => by rw [upd_ne (ne_of_none e nD)]; exact e, upd_same⟩ (fun i H' _ z => SqT.of (z.1 _ _ O.ps)) ?_ ?_
  · rintro i x H1 H2 hi ⟨s1, hD⟩ ⟨rfl, hx⟩
    rw [List.getElem?_map] at hx
    cases e : ns[i]? with
    | none => rw [e] at hx; exact nomatch hx
    | some z =>
      rw [e] at hx
      obtain rfl : V.str z = x := Option.some.inj hx
      obtain ⟨hl, hv⟩ := List.getElem?_eq_some_iff.mp e
      have O2' := O2.same s1
      have more : ns.take (i + 1) = ns.take i ++ [z] := by rw [← hv]; exact List.take_succ_eq_append_getElem hl
      have le8 := O.le
      refine ⟨hw _, yesB ⟨_, h2 _, _, hj _, q, gO K, dy, _, _, rfl, O2'.ob, T.clo, T.noF, rfl, tq, _, rfl, .inr (SqT.of O2'.ps), rfl, flat_strs ms, _, hD, ?_, fun c u e2 => ?_, ?_⟩⟩
      · rw [List.length_map, List.length_map, List.length_take, sizeLine_eq]
        omega
      · rw [upd_ne (ne_of_none e2 nD)]
        exact s1 c u e2
      · rw [upd_same, more, List.map_append, List.map_append]
        show some (HO.lst (_ ++ [V.bl (inV (.str z) (ms.map V.str))])) = _
        rw [inV_str]
        rfl
  · rintro H1 ⟨s1, hD⟩
    rw [List.length_map, List.take_of_length_le (Nat.le_refl _)] at hD
    refine ⟨D, _, rfl, SqL.of hD, ?_⟩
    have e : (ns.map fun x => decide (x ∈ ms)).all id = allIn ns ms := by
      unfold allIn
      rw [List.all_map]
      rfl
    rw [e]
    exact k H1 s1
end
end K7
set_option Elab.async false
set_option linter.all false
set_option maxRecDepth 100000
set_option maxHeartbeats 1000000
namespace K7
open PySem PySem.Spec PyProof.Rows L2 RV EV He EF EI
section
variable {P : Program} {w : World} {K : PySem.W.Frag} {mg : Str → Option Value} {base : Heap}
abbrev RLe : List Str → List Str → VK → XK → Hp → Prop := fun ns ms Q E H => ∀ H', Same H H' → Q (.bl (allIn ns ms)) H'
abbrev RGe : List Str → List Str → VK → XK → Hp → Prop := fun ns ms Q E H => ∀ H', Same H H' → Q (.bl (allIn ms ns)) H'
abbrev RLt : List Str → List Str → VK → XK → Hp → Prop := fun ns ms Q E H => ∀ H', Same H H' → Q (.bl (allIn ns ms && !decide (ns = ms))) H'
abbrev RGt : List Str → List Str → VK → XK → Hp → Prop := fun ns ms Q E H => ∀ H', Same H H' → Q (.bl (allIn ms ns && !decide (ns = ms))) H'
abbrev scL_N : List Str := ["self", "other", "fix"]
theorem ok_le (T : KF P w K mg base) {fd : FuncData} (F : FunD K "__le__" "Lot.__le__" (defArgs (lSt 14)) (defBody (lSt 14)) (defScope (lSt 14)) [] [] (lAd K "__le__") fd) : FnOk P w K mg base (L2.CX P w) 4 (lAd K "__le__") fd ["self", "other"] (spBin K RLe) := by
  refine F.ok scLe len2 (fun cdv A outer s H vs Q E hr h => ?_)
  obtain ⟨p, ns, v, rfl, ⟨dx, tp, O⟩, o⟩ := h
  refine ⟨_, pss_cons (ps_if (pt_not (pt_val (pe_callB call_isi (by rfl) (T.fr "isinstance" (by decide)) PyProof.Rows.boot_isinstance (pa_cons (pv 1) (pa_cons (pe_glob (v := .ref (gO K)) (by rfl) T.go rfl) pa_nil)))))
      (pss_one (ps_raise1 T.bl (hr.mono (by decide)) rfl (takes_of rfl rfl rfl rfl) (by rfl) pe_str)) pss_nil)
    (pss_one (ps_ret (pe_callB (cr_all rfl) (by rfl) (T.fr "all" (by decide)) PyProof.Rows.boot_all (pa_cons (pe_lc (own := [("fix", 2)]) (g := gName 2) (tt := tYes) (te := teIn K 1) rfl scLe.nd (pi_tup (pe_fld (pv 0) rfl)) (blkOk_by (N := scL_N) (sc := defScope (lSt 14)) (by decide +kernel))
      (fun _ _ _ _ _ => pg_name (i := 2) scLe.nd rfl (.inl rfl)) (fun _ _ _ _ _ => pts_nil) (fun _ _ _ _ _ => pe_cmpR op_in_seq (pv 2) (pe_fld (pv 1) rfl) rfl)) pa_nil)))), ?_⟩
  rcases o with ⟨q, ms, rfl, l2, r⟩ | o
  · refine ⟨_, rfl, .ref q, .ref (gO K), _, _, true, rfl, .own _, ty_lot T l2.choose_spec.choose_spec.ob, kit_lot T, true, rfl, if_negB rfl ?_⟩
    obtain ⟨dy, tq, O2⟩ := l2
    exact all_read T (i := 0) (j := 1) (σ := [some (.ref p), some (.ref q), none]) rfl (fun _ => rfl) (fun _ => rfl) (fun _ => rfl) O O2 fun H' s' => r H' s'
  · obtain ⟨⟨t, ht, ty⟩, bd⟩ := o
    exact ⟨_, rfl, v, .ref (gO K), _, _, false, rfl, .own _, ty, kit_bes T ht, false, rfl, if_posB rfl (mkb1 bd)⟩
theorem ok_ge (T : KF P w K mg base) {fd : FuncData} (F : FunD K "__ge__" "Lot.__ge__" (defArgs (lSt 15)) (defBody (lSt 15)) (defScope (lSt 15)) [] [] (lAd K "__ge__") fd) : FnOk P w K mg base (L2.CX P w) 4 (lAd K "__ge__") fd ["self", "other"] (spBin K RGe) := by
  refine F.ok scGe len2 (fun cdv A outer s H vs Q E hr h => ?_)
  obtain ⟨p, ns, v, rfl, ⟨dx, tp, O⟩, o⟩ := h
  refine ⟨_, pss_cons (ps_if (pt_not (pt_val (pe_callB call_isi (by rfl) (T.fr "isinstance" (by decide)) PyProof.Rows.boot_isinstance (pa_cons (pv 1) (pa_cons (pe_glob (v := .ref (gO K)) (by rfl) T.go rfl) pa_nil)))))
      (pss_one (ps_raise1 T.bl (hr.mono (by decide)) rfl (takes_of rfl rfl rfl rfl) (by rfl) pe_str)) pss_nil)
    (pss_one (ps_ret (pe_callB (cr_all rfl) (by rfl) (T.fr "all" (by decide)) PyProof.Rows.boot_all (pa_cons (pe_lc (own := [("fix", 2)]) (g := gName 2) (tt := tYes) (te := teIn K 0) rfl scGe.nd (pi_tup (pe_fld (pv 1) rfl)) (blkOk_by (N := scL_N) (sc := defScope (lSt 15)) (by decide +kernel))
      (fun _ _ _ _ _ => pg_name (i := 2) scGe.nd rfl (.inl rfl)) (fun _ _ _ _ _ => pts_nil) (fun _ _ _ _ _ => pe_cmpR op_in_seq (pv 2) (pe_fld (pv 0) rfl) rfl)) pa_nil)))), ?_⟩
  rcases o with ⟨q, ms, rfl, l2, r⟩ | o
  · refine ⟨_, rfl, .ref q, .ref (gO K), _, _, true, rfl, .own _, ty_lot T l2.choose_spec.choose_spec.ob, kit_lot T, true, rfl, if_negB rfl ?_⟩
    obtain ⟨dy, tq, O2⟩ := l2
    exact all_read T (i := 1) (j := 0) (σ := [some (.ref p), some (.ref q), none]) rfl (fun _ => rfl) (fun _ => rfl) (fun _ => rfl) O2 O fun H' s' => r H' s'
  · obtain ⟨⟨t, ht, ty⟩, bd⟩ := o
    exact ⟨_, rfl, v, .ref (gO K), _, _, false, rfl, .own _, ty, kit_bes T ht, false, rfl, if_posB rfl (mkb1 bd)⟩
theorem scLt : FnScope scB_N ["self", "other"] (defScope (lSt 16)) := ⟨rfl, rfl, rfl, by decide +kernel, rfl, by decide +kernel, by decide +kernel⟩
theorem scGT : FnScope scB_N ["self", "other"] (defScope (lSt 17)) := ⟨rfl, rfl, rfl, by decide +kernel, rfl, by decide +kernel, by decide +kernel⟩
theorem first_lot : PySem.W.notFirst K (gO K) (.ref (gO K)) = true := by
  unfold PySem.W.notFirst
  simp
theorem first_bes (T : KF P w K mg base) {t : String} (h : t ∈ besT) : PySem.W.notFirst K (gO K) (.type t) = true := by
  unfold PySem.W.notFirst
  rw [besF T t h]
  simp
/-- the two orders that ask an other one first -/
theorem ord_read (T : KF P w K mg base) {R : List Str → List Str → VK → XK → Hp → Prop} {p dx tp : Addr} {ns : List Str} {v : V} {H : Hp} {E : XK} {Q : VK} {g : List Str → List Str → Bool} (O : LO K H p dx tp ns)
    (hR : ∀ ns ms Q E H, (∀ H', Same H H' → Q (.bl (g ns ms)) H') → R ns ms Q E H) (o : Other K H E v fun _ ms H' => ∀ H'', Same H' H'' → Q (.bl (g ns ms && !decide (ns = ms))) H'') :
    tRet (tAndV (tOp (Oo.rOwn2 K (gO K) (fun t => PySem.W.notFirst K (gO K) t = true) (spBin K R) E) (tVar 0) (tVar 1)) (tOp (rNeD K) (tFld K (tVar 0) "fixes") (tFld K (tVar 1) "fixes"))) { nx := fun _ H' => Q .non H', rt := Q } [some (.ref p), some v] H := by
  rcases o with ⟨q, ms, rfl, ⟨dy, tq, O2⟩, r⟩ | ⟨⟨t, ht, ty⟩, bd⟩
  · refine ⟨_, rfl, _, rfl, p, dx, _, _, rfl, O.ob, ty_lot T O2.ob, first_lot, p, ns, _, rfl, ⟨dx, tp, O⟩, .inl ⟨q, ms, rfl, ⟨dy, tq, O2⟩, hR _ _ _ _ _ fun H' s' => ⟨_, rfl, ?_⟩⟩⟩
    have O1 := O.same s'
    have O2' := O2.same s'
    have r' := r H' s'
    cases e : g ns ms with
    | true =>
      rw [e, Bool.true_and] at r'
      refine if_posB rfl ⟨_, rfl, p, gO K, dx, _, _, rfl, O1.ob, T.clo, T.noF, rfl, _, rfl, q, gO K, dy, _, _, rfl, O2'.ob, T.clo, T.noF, rfl, neT (SqT.of O1.ps) (SqT.of O2'.ps) (fx_ok O1) (fx_ok O2') r'⟩
    | false =>
      rw [e, Bool.false_and] at r'
      exact if_negB rfl r'
  · exact ⟨_, rfl, _, rfl, p, dx, _, _, rfl, O.ob, ty, first_bes T ht, p, ns, _, rfl, ⟨dx, tp, O⟩, .inr ⟨⟨t, ht, ty⟩, bd⟩⟩
theorem ok_lt (T : KF P w K mg base) {fd : FuncData} (F : FunD K "__lt__" "Lot.__lt__" (defArgs (lSt 16)) (defBody (lSt 16)) (defScope (lSt 16)) [] [] (lAd K "__lt__") fd) : FnOk P w K mg base (L2.CX P w) 5 (lAd K "__lt__") fd ["self", "other"] (spBin K RLt) := by
  obtain ⟨_, fl, Fl⟩ := T.lot ("__le__", 14) (by decide)
  have bl : L2.Binds K fl ["self", "other"] [] := FunD.bindsN Fl fun _ _ _ _ _ _ us hl => match us, hl with | [_, _], _ => rfl
  refine F.ok scLt len2 (fun cdv A outer s H vs Q E hr h => ?_)
  obtain ⟨p, ns, v, rfl, ⟨dx, tp, O⟩, o⟩ := h
  refine ⟨_, pss_one (ps_ret (pe_and (pe_cmpR (Oo.op_cmpO (E := E) (op := .LtE) (fun _ _ => rfl) (lm T ("__le__", 14) (by decide)) (Oo.FnOk.r0 (ok_le T Fl) bl) hr (passes_call (takes_of rfl rfl rfl rfl) fun _ _ _ _ h => h)) (pv 0) (pv 1) (nomark _))
    (pe_one (pe_cmpR (op_neD hr.units) (pe_fld (pv 0) rfl) (pe_fld (pv 1) rfl) (nomark _))))), ?_⟩
  exact ord_read T (R := RLe) (g := fun ns ms => allIn ns ms) O (fun _ _ _ _ _ h => h) o
theorem ok_gt (T : KF P w K mg base) {fd : FuncData} (F : FunD K "__gt__" "Lot.__gt__" (defArgs (lSt 17)) (defBody (lSt 17)) (defScope (lSt 17)) [] [] (lAd K "__gt__") fd) : FnOk P w K mg base (L2.CX P w) 5 (lAd K "__gt__") fd ["self", "other"] (spBin K RGt) := by
  obtain ⟨_, fl, Fl⟩ := T.lot ("__ge__", 15) (by decide)
  have bl : L2.Binds K fl ["self", "other"] [] := FunD.bindsN Fl fun _ _ _ _ _ _ us hl => match us, hl with | [_, _], _ => rfl
  refine F.ok scGT len2 (fun cdv A outer s H vs Q E hr h => ?_)
  obtain ⟨p, ns, v, rfl, ⟨dx, tp, O⟩, o⟩ := h
  refine ⟨_, pss_one (ps_ret (pe_and (pe_cmpR (Oo.op_cmpO (E := E) (op := .GtE) (fun _ _ => rfl) (lm T ("__ge__", 15) (by decide)) (Oo.FnOk.r0 (ok_ge T Fl) bl) hr (passes_call (takes_of rfl rfl rfl rfl) fun _ _ _ _ h => h)) (pv 0) (pv 1) (nomark _))
    (pe_one (pe_cmpR (op_neD hr.units) (pe_fld (pv 0) rfl) (pe_fld (pv 1) rfl) (nomark _))))), ?_⟩
  exact ord_read T (R := RGe) (g := fun ns ms => allIn ms ns) O (fun _ _ _ _ _ h => h) o
end
end K7
set_option Elab.async false
set_option linter.all false
set_option maxRecDepth 100000
set_option maxHeartbeats 1000000
/-! is_integer, is_within. -/
namespace K7
open PySem PySem.Spec PyProof.Rows L2 RV
abbrev sInt : Stmt := top 2
abbrev sWithin : Stmt := top 3
def spIsInt (K : PySem.W.Frag) : Sp := fun vs H Q _ => ∃ v t bi bb, vs = [v] ∧ TyX K H v (.type t) ∧ kitB t "int" = some bi ∧ kitB t "bool" = some bb ∧ Q (.bl (bi && !bb)) H
def spWithin (K : PySem.W.Frag) : Sp := fun vs H Q _ => ∃ v t bi bb lo hi, vs = [v, .int lo, .int hi] ∧ TyX K H v (.type t) ∧ kitB t "int" = some bi ∧ kitB t "bool" = some bb ∧
  (((bi && !bb) = false ∧ Q (.bl false) H) ∨ ((bi && !bb) = true ∧ ∃ i, v = .int i ∧ Q (.bl (decide (lo ≤ i) && decide (i ≤ hi))) H))
section
variable {P : Program} {w : World} {K : PySem.W.Frag} {mg : Str → Option Value} {base : Heap} {f fI : Addr} {fd fdI : FuncData}
theorem scInt : FnScope ["value"] ["value"] (defScope sInt) := ⟨rfl, rfl, rfl, by decide +kernel, rfl, by decide +kernel, by decide +kernel⟩
theorem ok_isInt (F : FnP K "is_integer" sInt f fd) (T : Blt2 mg) : FnOk P w K mg base CX0 1 f fd ["value"] (spIsInt K) := by
  refine F.ok scInt (fun vs H Q E h => ?_) (fun cdv A outer s H vs Q E hr h => ?_)
  · obtain ⟨v, t, bi, bb, rfl, _⟩ := h
    rfl
  · obtain ⟨v, t, bi, bb, rfl, ht, h1, h2, k⟩ := h
    refine ⟨_, PSs.nox (pss_one (ps_ret (pe_and (pe_callB call_isi (by rfl) T.isi PyProof.Rows.boot_isinstance (pa_cons (pv 0) (pa_cons (pe_bltn (v := .ty "int") (by rfl) T.int boot_int rfl) pa_nil)))
      (pe_one (pe_not (pe_callB call_isi (by rfl) T.isi PyProof.Rows.boot_isinstance (pa_cons (pv 0) (pa_cons (pe_bltn (v := .ty "bool") (by rfl) T.bool boot_T rfl) pa_nil)))))))), ?_⟩
    refine ⟨v, rfl, v, .ty "int", _, _, bi, rfl, .ty _, ht, kit_ty h1, bi, rfl, ?_⟩
    cases bi with
    | true => exact if_posB rfl ⟨v, rfl, v, .ty "bool", _, _, bb, rfl, .ty _, ht, kit_ty h2, bb, rfl, by simpa using k⟩
    | false => exact if_negB rfl (by simpa using k)
theorem scWithin : FnScope ["value", "least", "most"] ["value", "least", "most"] (defScope sWithin) := ⟨rfl, rfl, rfl, by decide +kernel, rfl, by decide +kernel, by decide +kernel⟩
theorem ok_within (F : FnP K "is_within" sWithin f fd) (T : Blt2 mg) (FI : FnP K "is_integer" sInt fI fdI) (gI : mg "is_integer" = some (.ref fI)) : FnOk P w K mg base CX0 2 f fd ["value", "least", "most"] (spWithin K) := by
  have GI : FnOk P w K mg base CX0 1 fI fdI ["value"] (spIsInt K) := ok_isInt FI T
  have bI : L2.Binds K fdI ["value"] [] := FI.bindsN fun _ _ _ _ _ _ us hl => match us, hl with | [_], _ => rfl
  refine F.ok scWithin (fun vs H Q E h => ?_) (fun cdv A outer s H vs Q E hr h => ?_)
  · obtain ⟨v, t, bi, bb, lo, hi, rfl, _⟩ := h
    rfl
  · obtain ⟨v, t, bi, bb, lo, hi, rfl, ht, h1, h2, k⟩ := h
    refine ⟨_, PSs.nox (pss_one (ps_ret (pe_and (pe_call GI hr (by rfl) gI FI.kp bI .nil pass0 (pa_cons (pv 0) pa_nil)) (pe_one (pe_chain op_le op_le (pv 1) (pv 0) (pv 2)))))), ?_⟩
    refine ⟨v, rfl, v, t, bi, bb, rfl, ht, h1, h2, (bi && !bb), rfl, ?_⟩
    rcases k with ⟨e, k⟩ | ⟨e, i, rfl, k⟩
    · rw [e]
      exact if_negB rfl k
    · rw [e]
      refine if_posB rfl ⟨_, rfl, _, rfl, lo, i, rfl, rfl, _, rfl, ?_⟩
      by_cases hle : lo ≤ i
      · refine if_posB (decide_eq_true hle) ⟨_, rfl, i, hi, rfl, rfl, ?_⟩
        rw [decide_eq_true hle] at k
        simpa using k
      · refine if_negB (decide_eq_false hle) ?_
        rw [decide_eq_false hle] at k
        simpa using k
end
end K7
set_option Elab.async false
set_option linter.all false
set_option maxRecDepth 100000
set_option maxHeartbeats 1000000
/-! -x by an own __neg__; bool(x) by an own __bool__. -/
namespace Oo
open PySem PySem.Spec PyProof.Rows L2 PySem.W
section
variable {X : Cx} {CX : CXT} {k : Nat} {C f : Addr} {sp : Sp} {E : XK}
def rNegO (C : Addr) (sp : Sp) (E : XK) : V → Hp → VK → Prop := fun x H Q => ∃ a dx fs, x = .ref a ∧ H a = some (.ins C dx fs) ∧ sp [.ref a] H Q E
theorem un_negO (hm : Meth X.K C "__neg__" f) (F : FnR X.prog X.w X.K X.mg X.base CX k f sp) (hr : Room k X.A) (hx : Passes CX X E) : UnR X (unaryOp .USub) (rNegO C sp E) := by
  intro pins s σ H x v Q I rx h
  obtain ⟨a, dx, fs, rfl, ea, q⟩ := h
  obtain rfl : v = Value.ref a := rx
  obtain ⟨mA, O, _⟩ := ins_get I.hok ea
  obtain ⟨od, J, _⟩ := O.look
  obtain ⟨m, hF⟩ := I.fr
  exact PySem.W.ksp_neg hF I.ok.mod.kin J hm.at_ hm.fn (thn (wpAny_call (run_fnR (us := [.ref a]) (vs := [.ref a]) F hr hx I (.cons rfl .nil) q)) fun z s' hz => hz)
end
end Oo
set_option Elab.async false
set_option linter.all false
set_option maxRecDepth 100000
set_option maxHeartbeats 1000000
/-! Number, Release, kept_value. -/
namespace K7
open PySem PySem.Spec PyProof.Rows L2 RV EV He EF EI
section
variable {P : Program} {w : World} {K : PySem.W.Frag} {mg : Str → Option Value} {base : Heap}
abbrev Callee (P : Program) (w : World) (K : PySem.W.Frag) (mg : Str → Option Value) (base : Heap) (CX : CXT) (k : Nat) (x : Str) (ps : List Str) (sp : Sp) : Prop :=
  ∃ fd, FnOk P w K mg base CX k (ga K x) fd ps sp ∧ L2.Binds K fd ps [] ∧ PySem.W.keepIn K (.ref (ga K x)) = true ∧ mg x = some (.ref (ga K x))
theorem c_within (T : KF P w K mg base) : Callee P w K mg base CX0 2 "is_within" ["value", "least", "most"] (spWithin K) := by
  obtain ⟨fd, F, g⟩ := T.tops ("is_within", 3) (by decide)
  obtain ⟨fI, FI, gI⟩ := T.tops ("is_integer", 2) (by decide)
  exact ⟨fd, ok_within F (blt2 T) FI gI, FunD.bindsN F fun _ _ _ _ _ _ us hl => match us, hl with | [_, _, _], _ => rfl, F.kp, g⟩
/-! Number.__init__ -/
def spNuI (K : PySem.W.Frag) : Sp := fun vs H Q _ => ∃ p dx line at_, vs = [.ref p, .int line, .int at_] ∧ H p = some (.ins (gNu K) dx []) ∧ 1 ≤ line ∧ line ≤ 6 ∧ 0 ≤ at_ ∧ at_ ≤ 59 ∧
  ∀ H', Same2 H H' p → H' p = some (.ins (gNu K) dx [("line", .int line), ("at", .int at_)]) → Q .non H'
abbrev uSt : Stmt := inClass (top 32) 0
theorem scNuI : FnScope ["self", "line", "at"] ["self", "line", "at"] (defScope uSt) := ⟨rfl, rfl, rfl, by decide +kernel, rfl, by decide +kernel, by decide +kernel⟩
theorem ok_nuI (T : KF P w K mg base) {fd : FuncData} (F : FunD K "__init__" "Number.__init__" (defArgs uSt) (defBody uSt) (defScope uSt) [] [] (ma K (gNu K) "__init__") fd) : FnOk P w K mg base (L2.CX P w) 3 (ma K (gNu K) "__init__") fd ["self", "line", "at"] (spNuI K) := by
  obtain ⟨fw, Gw, bw, kw, gw⟩ := c_within (w := w) T
  obtain ⟨tL, iL⟩ := T.iL
  obtain ⟨tR, iR⟩ := T.iR
  refine F.ok scNuI (fun vs H Q E h => ?_) (fun cdv A outer s H vs Q E hr h => ?_)
  · obtain ⟨p, dx, line, at_, rfl, _⟩ := h
    rfl
  · obtain ⟨p, dx, line, at_, rfl, hp, l1, l2, a1, a2, k⟩ := h
    refine ⟨_, pss_cons (ps_if (pt_not (pt_val (pe_call (E := E0) Gw hr (by rfl) gw kw bw .nil pass0 (pa_cons (pv 1) (pa_cons pe_int (pa_cons (pe_glob (v := .int 6) (by rfl) iL ⟨_, rfl⟩) pa_nil))))))
        (pss_one (ps_raise1 T.bnu (hr.mono (by decide)) rfl (takes_of rfl rfl rfl rfl) (by rfl) (pv 1))) pss_nil)
      (pss_cons (ps_if (pt_not (pt_val (pe_call (E := E0) Gw hr (by rfl) gw kw bw .nil pass0 (pa_cons (pv 2) (pa_cons pe_int (pa_cons (pe_op op_sub (pe_glob (v := .int 60) (by rfl) iR ⟨_, rfl⟩) pe_int) pa_nil))))))
        (pss_one (ps_raise1 T.bnu (hr.mono (by decide)) rfl (takes_of rfl rfl rfl rfl) (by rfl) (pv 2))) pss_nil)
      (pss_cons (ps_fld (pv 0) (pv 1) rfl) (pss_one (ps_fld (pv 0) (pv 2) rfl)))), ?_⟩
    obtain ⟨gl, clN, mkN⟩ := T.gk ("Number", 32) (by decide)
    refine ⟨_, rfl, .int line, "int", true, false, 1, 6, rfl, .base (.int line), by decide +kernel, by decide +kernel, .inr ⟨rfl, line, rfl, _, rfl, if_negB ?_ ?_⟩⟩
    · rw [decide_eq_true l1, decide_eq_true l2]
      rfl
    refine ⟨_, rfl, 60, 1, rfl, rfl, .int at_, "int", true, false, 0, 59, rfl, .base (.int at_), by decide +kernel, by decide +kernel, .inr ⟨rfl, at_, rfl, _, rfl, if_negB ?_ ?_⟩⟩
    · rw [decide_eq_true a1, decide_eq_true a2]
      rfl
    refine ⟨_, rfl, _, rfl, p, gNu K, dx, _, rfl, hp, clN, T.noLi, by show 0 < 1000; decide, ?_⟩
    refine ⟨_, rfl, _, rfl, p, gNu K, dx, _, rfl, upd_same, clN, T.noAt, by show 1 < 1000; decide, ?_⟩
    refine k _ (fun c o hc e => ?_) (by rw [upd_same]; rfl)
    rw [upd_ne hc, upd_ne hc]
    exact e
/-! kept_value -/
abbrev sOpen : Stmt := top 27
abbrev sKept : Stmt := top 28
theorem scOp : FnScope ["value", "part"] ["value"] (defScope sOpen) := ⟨rfl, rfl, rfl, by decide +kernel, rfl, by decide +kernel, by decide +kernel⟩
def spOpen (K : PySem.W.Frag) : Sp := fun vs H Q _ => ∃ v t, vs = [v] ∧ (∀ H', Same H H' → TyX K H' v t) ∧ PySem.W.kitOne K t (.type "tuple") = some false ∧ PySem.W.kitAny K t [.type "list", .type "dict"] = some false ∧ ∀ H', Same H H' → Q (.bl false) H'
theorem ok_open (T : KF P w K mg base) {f : Addr} {fd : FuncData} (F : FnP K "is_open_to_change" sOpen f fd) : FnOk P w K mg base CX0 1 f fd ["value"] (spOpen K) := by
  refine F.ok scOp (fun vs H Q E h => ?_) (fun cdv A outer s H vs Q E hr h => ?_)
  · obtain ⟨v, t, rfl, _⟩ := h
    rfl
  · obtain ⟨v, t, rfl, ty, kt, kl, k⟩ := h
    refine ⟨_, PSs.nox (pss_cons (ps_if (pt_val (pe_callB call_isi (by rfl) (T.fr "isinstance" (by decide)) PyProof.Rows.boot_isinstance (pa_cons (pv 0) (pa_cons (pe_bltn (v := .ty "tuple") (by rfl) (T.fr "tuple" (by decide)) boot_T rfl) pa_nil))))
        (pss_one ps_never) pss_nil)
      (pss_one (ps_ret (pe_callB call_isiT (by rfl) (T.fr "isinstance" (by decide)) PyProof.Rows.boot_isinstance (pa_cons (pv 0) (pa_cons (pe_tup (pa_cons (pe_bltn (v := .ty "list") (by rfl) (T.fr "list" (by decide)) boot_T rfl) (pa_cons (pe_bltn (v := .ty "dict") (by rfl) (T.fr "dict" (by decide)) boot_T rfl) pa_nil))) pa_nil)))))), ?_⟩
    refine ⟨v, rfl, v, .ty "tuple", _, _, false, rfl, .ty _, ty H (fun _ _ e => e), kt, false, rfl, if_negB rfl ?_⟩
    refine ⟨v, rfl, by show 2 ≤ sizeLine; rw [sizeLine_eq]; decide, fun tp ntp => ⟨v, tp, _, t, _, false, rfl, upd_same, .cons (.ty _) (.cons (.ty _) .nil), ty _ (same_new ntp), kl, k _ (same_new ntp)⟩⟩
theorem c_open (T : KF P w K mg base) : Callee P w K mg base CX0 1 "is_open_to_change" ["value"] (spOpen K) := by
  obtain ⟨fd, F, g⟩ := T.tops ("is_open_to_change", 27) (by decide)
  exact ⟨fd, ok_open T F, FunD.bindsN F fun _ _ _ _ _ _ us hl => match us, hl with | [_], _ => rfl, F.kp, g⟩
def spKept (K : PySem.W.Frag) : Sp := fun vs H Q _ => ∃ v t, vs = [v] ∧ (∀ H', Same H H' → TyX K H' v t) ∧ PySem.W.kitOne K t (.type "tuple") = some false ∧ PySem.W.kitAny K t [.type "list", .type "dict"] = some false ∧ ∀ H', Same H H' → Q v H'
theorem scKe : FnScope ["value", "parts"] ["value"] (defScope sKept) := ⟨rfl, rfl, rfl, by decide +kernel, rfl, by decide +kernel, by decide +kernel⟩
theorem ok_kept (T : KF P w K mg base) {f : Addr} {fd : FuncData} (F : FnP K "kept_value" sKept f fd) : FnOk P w K mg base CX0 2 f fd ["value"] (spKept K) := by
  obtain ⟨fo, Go, bo, ko, go⟩ := c_open (w := w) T
  refine F.ok scKe (fun vs H Q E h => ?_) (fun cdv A outer s H vs Q E hr h => ?_)
  · obtain ⟨v, t, rfl, _⟩ := h
    rfl
  · obtain ⟨v, t, rfl, ty, kt, kl, k⟩ := h
    refine ⟨_, PSs.nox (pss_cons (ps_if (pt_not (pt_val (pe_call (E := E0) Go hr (by rfl) go ko bo .nil pass0 (pa_cons (pv 0) pa_nil)))) (pss_one (ps_ret (pv 0))) pss_nil)
      (pss_cons ps_never (pss_cons ps_never (pss_one ps_never)))), ?_⟩
    exact ⟨v, rfl, v, t, rfl, ty, kt, kl, fun H' s' => ⟨false, rfl, if_posB rfl ⟨v, rfl, k H' s'⟩⟩⟩
theorem c_kept (T : KF P w K mg base) : Callee P w K mg base CX0 2 "kept_value" ["value"] (spKept K) := by
  obtain ⟨fd, F, g⟩ := T.tops ("kept_value", 28) (by decide)
  exact ⟨fd, ok_kept T F, FunD.bindsN F fun _ _ _ _ _ _ us hl => match us, hl with | [_], _ => rfl, F.kp, g⟩
/-! what relB says -/
theorem rB (T : KF P w K mg base) : noteB K = true ∧ kitsB K = true ∧ objB1 K (gNu K) = true ∧ objB1 K (gRe K) = true := by
  have z : relB K = true := T.relb
  unfold relB at z
  obtain ⟨z1, z⟩ := ba z
  obtain ⟨z2, z⟩ := ba z
  obtain ⟨z3, z⟩ := ba z
  exact ⟨z1, (ba z2).1, z3, (ba z).1⟩
theorem ty_ins (T : KF P w K mg base) {C : Addr} (c : Cls K C) (b : objB1 K C = true) {H : Hp} {a dx : Addr} {fs : List (Str × V)} (e : H a = some (.ins C dx fs)) : TyX K H (.ref a) (.ref C) := by
  obtain ⟨o1, o2⟩ := ba T.ob
  obtain ⟨h1, h⟩ := ba b
  obtain ⟨h2, _⟩ := ba h
  exact .base (.ins e c (eqO_ok h1) (eqO_ok o1) (of_decide_eq_true o2) (of_decide_eq_true h2))
structure Kits (K : PySem.W.Frag) : Prop where
  nn : PySem.W.kitOne K (.ref (gNo K)) (.ref (gNo K)) = some true
  ln : PySem.W.kitOne K (.ref (gO K)) (.ref (gNo K)) = some false
  bn : ∀ t ∈ besT, PySem.W.kitOne K (.type t) (.ref (gNo K)) = some false
  rr : PySem.W.kitOne K (.ref (gRe K)) (.ref (gRe K)) = some true
  uu : PySem.W.kitOne K (.ref (gNu K)) (.ref (gNu K)) = some true
  lt : PySem.W.kitOne K (.ref (gO K)) (.type "tuple") = some false
  ll : PySem.W.kitAny K (.ref (gO K)) [.type "list", .type "dict"] = some false
  ut : PySem.W.kitOne K (.ref (gNu K)) (.type "tuple") = some false
  ul : PySem.W.kitAny K (.ref (gNu K)) [.type "list", .type "dict"] = some false
theorem kits (T : KF P w K mg base) : Kits K := by
  have z := (rB T).2.1
  unfold kitsB at z
  obtain ⟨z1, z⟩ := ba z
  obtain ⟨z2, z⟩ := ba z
  obtain ⟨z3, z⟩ := ba z
  obtain ⟨z4, z⟩ := ba z
  obtain ⟨z5, z⟩ := ba z
  have zL := ba (List.all_eq_true.mp z "Lot" (by decide))
  have zN := ba (List.all_eq_true.mp z "Number" (by decide))
  exact ⟨of_decide_eq_true z1, of_decide_eq_true z2, fun t ht => of_decide_eq_true (List.all_eq_true.mp z3 t ht), of_decide_eq_true z4, of_decide_eq_true z5, of_decide_eq_true zL.1, of_decide_eq_true zL.2, of_decide_eq_true zN.1, of_decide_eq_true zN.2⟩
/-! Release.__init__ -/
def spReI (K : PySem.W.Frag) : Sp := fun vs H Q _ => ∃ p dx n l, vs = [.ref p, .ref n, .ref l] ∧ l ≠ p ∧ H p = some (.ins (gRe K) dx []) ∧ (∃ dn fn, H n = some (.ins (gNu K) dn fn)) ∧ (∃ dl fl, H l = some (.ins (gO K) dl fl)) ∧
  ∀ H', Same2 H H' p → H' p = some (.ins (gRe K) dx [("number", .ref n), ("lot", .ref l)]) → Q .non H'
abbrev rSt : Stmt := inClass (top 33) 0
theorem scReI : FnScope ["self", "number", "lot"] ["self", "number", "lot"] (defScope rSt) := ⟨rfl, rfl, rfl, by decide +kernel, rfl, by decide +kernel, by decide +kernel⟩
theorem ok_reI (T : KF P w K mg base) {fd : FuncData} (F : FunD K "__init__" "Release.__init__" (defArgs rSt) (defBody rSt) (defScope rSt) [] [] (ma K (gRe K) "__init__") fd) : FnOk P w K mg base (L2.CX P w) 3 (ma K (gRe K) "__init__") fd ["self", "number", "lot"] (spReI K) := by
  obtain ⟨fk, Gk, bk, kk, gk⟩ := c_kept (w := w) T
  refine F.ok scReI (fun vs H Q E h => ?_) (fun cdv A outer s H vs Q E hr h => ?_)
  · obtain ⟨p, dx, n, l, rfl, _⟩ := h
    rfl
  · obtain ⟨p, dx, n, l, rfl, nlp, hp, ⟨dn, fn, hn⟩, ⟨dl, fl, hl⟩, k⟩ := h
    refine ⟨_, pss_cons (ps_fld (pv 0) (pe_call (E := E0) Gk hr (by rfl) gk kk bk .nil pass0 (pa_cons (pv 1) pa_nil)) rfl) (pss_one (ps_fld (pv 0) (pe_call (E := E0) Gk hr (by rfl) gk kk bk .nil pass0 (pa_cons (pv 2) pa_nil)) rfl)), ?_⟩
    obtain ⟨_, clN, _⟩ := T.gk ("Number", 32) (by decide)
    obtain ⟨_, clR, _⟩ := T.gk ("Release", 33) (by decide)
    have kt := kits T
    refine ⟨_, rfl, .ref n, .ref (gNu K), rfl, fun H' s' => ty_ins T clN (rB T).2.2.1 (s' _ _ hn), kt.ut, kt.ul, fun H1 s1 => ?_⟩
    refine ⟨_, rfl, p, gRe K, dx, _, rfl, s1 _ _ hp, clR, T.noNu, by show 0 < 1000; decide, ?_⟩
    refine ⟨_, rfl, .ref l, .ref (gO K), rfl, fun H' s' => ty_lot T (s' _ _ (by rw [upd_ne nlp]; exact s1 _ _ hl)), kt.lt, kt.ll, fun H2 s2 => ?_⟩
    refine ⟨_, rfl, p, gRe K, dx, _, rfl, s2 _ _ upd_same, clR, T.noLo, by show 1 < 1000; decide, ?_⟩
    refine k _ (fun c o hc e => ?_) (by rw [upd_same]; rfl)
    rw [upd_ne hc]
    exact s2 _ _ (by rw [upd_ne hc]; exact s1 _ _ e)
end
end K7
set_option Elab.async false
set_option linter.all false
set_option maxRecDepth 100000
set_option maxHeartbeats 1000000
/-! o.m(lambda x: body): a lambda with parameters handed to an own method, which calls it by its parameter's name. -/
namespace Oo
open PySem PySem.Spec PyProof.Rows L2 PySem.W LamX NdefX
/-- the lambda as a nested def (without its body) -/
abbrev lamNF (q : Str) (params : Arguments) (scope : Scope) (cl : List (Str × Addr)) (c' : Addr) : NF := ⟨"<lambda>", q, params, [], scope, cl, c'⟩
def LamAt (h : Heap) (f : Addr) (q : Str) (params : Arguments) (body : Expr) (scope : Scope) (cl : List (Str × Addr)) (c' : Addr) : Prop := ∃ pm ctv, h.get? f = some (kla_obj "<lambda>" q params body scope cl pm c' ctv)
section
variable {CX : CXT} {P : Program} {w : World} {K : Frag} {mg : Str → Option Value} {base : Heap} {N ps fr : List Str} {f c' : Addr} {k : Nat} {q : Str} {params : Arguments} {body : Expr} {scope : Scope} {cl : List (Str × Addr)}
theorem lam_code (S : NScope N ps fr scope) (hb : ∀ (pm cv ctv : Value) (us : List Value), us.length = ps.length → bindArgs (kla_fn "<lambda>" q params body scope cl pm cv ctv) ⟨us, []⟩ = pure (ps.zip us)) {A : Around} {outer : List Env} {s : Shared} {H : Hp} {us : List Value} {vs : List V} {ws : List (Option V)} {Q : VK} {E : XK}
    (hr : Room (k + 1) A) (e0 : Env0 P w K mg base A outer s H) (hf : LamAt s.heap f q params body scope cl c') (hc : H c' = some (CodeO c' q)) (C : CellsAt cl fr ws s.heap H) (r : Vals vs us) (hl : vs.length = ps.length)
    (hbody : Room k (A.deeper (envF (lamNF q params scope cl c') f s.heap.objs.size)) → ws.length = fr.length → ∃ t, PE (ncx CX P w K mg base N (lamNF q params scope cl c') f A outer s H E) body t ∧ t (startF N vs ws) H Q) :
    codeAny (model P w) A (.call (.ref f) ⟨us, []⟩) (CR CX outer P w H s Q E) s := by
  obtain ⟨pm, ctv, ho⟩ := hf
  have lim : s.heap.NoLimit := e0.mod.nolimit.keeps fun b o e => (e0.bs b o e).1
  refine kla_callFunE hr.depth ho rfl S.co S.gen rfl (codeO_at e0.hok hc) ?_
  rw [hb pm _ ctv us (by rw [← r.length]; exact hl)]
  refine wpAny_pure (wpAny_newFunctionEnv S.nocell (fun ⟨n, _⟩ hy => S.par n (List.of_mem_zip hy).1) (fun h₁ hns hsb => ⟨lim.fresh _ hsb, ?_⟩) S.kind)
  show codeAny _ _ (.expr body (envF (lamNF q params scope cl c') f s.heap.objs.size)) _ _
  have kp : ∀ b o, s.heap.get? b = some o → h₁.get? b = some o := fun b o e => hsb.extBut b o (Nat.ne_of_lt (Heap.lt_size e)) (Heap.get?_push_of_some _ e)
  obtain ⟨t, ht, hq⟩ := hbody (hr.deeper _) C.len
  have I : Inv (ncx CX P w K mg base N (lamNF q params scope cl c') f A outer s H E) [] (startF N vs ws) H { s with heap := h₁, toks := s.toks + (ps.zip us).length } := inv_startN S hr.hd e0 hl r C hns kp
  refine kla_codeExpr (wpAny_mono (ht.run [] _ (startF N vs ws) H Q I hq) (fun v s' hs => ?_) fun e s' hs => hs)
  obtain ⟨z, H', J, rv, q⟩ := hs
  exact ⟨z, H', J.os, J.bare, J.base, J.hok, rv, q⟩
end
section
variable {X : Cx} {pins : List (Addr × Obj)} {σ : L2.St} {H : Hp} {s : Shared}
/-- what the cells held at the entry they hold still, whoever's they are -/
theorem cells_still {cl : List (Str × Addr)} {fr : List Str} {ws : List (Option V)} (C : CellsAt cl fr ws X.s_0.heap X.H_0) (hx : X.ex = []) (I : Inv X pins σ H s) : CellsAt cl fr ws s.heap H := by
  have no : ∀ b : Addr, b ∉ X.ex := fun b => by rw [hx]; simp
  have kp : ∀ c v, X.H_0 c = none → X.s_0.heap.IsCell c v → s.heap.IsCell c v := fun c v n ⟨o, ho, hd⟩ => by
    obtain ⟨sl, e⟩ := I.base.any ho n (no c)
    exact ⟨_, e, hd⟩
  refine ⟨C.len, fun y c e => ?_, C.inj, fun i y e => ?_⟩
  · obtain ⟨n, v, z⟩ := C.all y c e
    refine ⟨?_, v, kp c v n z⟩
    obtain ⟨o, ho, _⟩ := z
    exact I.base.free c o ho n (no c)
  · obtain ⟨c, hc, hv⟩ := C.has i y e
    exact ⟨c, hc, fun v ev => let ⟨u, r, z⟩ := hv v ev; ⟨u, r, kp c _ (C.all y c hc).1 z⟩⟩
end
section
variable {CXg : CXT} {P : Program} {w : World} {K : Frag} {mg : Str → Option Value} {base : Heap} {Ng : List Str} {qg : Str} {sg : Scope} {g : Addr} {cdg : Value} {A0 : Around} {stack : List Env} {s0 : Shared} {H0 : Hp} {Eg E : XK}
/-- rule(e), in the def that got the lambda, entered at s0 -/
theorem pe_rule {CX : CXT} {N ps fr : List Str} {f c' : Addr} {k i : Nat} {q a : Str} {params : Arguments} {body e : Expr} {es : List Expr} {scope : Scope} {cl : List (Str × Addr)} {ws : List (Option V)} {t : TA} {sp : Sp} {p1 p2 : Pos}
    (S : NScope N ps fr scope) (hb : ∀ (pm cv ctv : Value) (us : List Value), us.length = ps.length → bindArgs (kla_fn "<lambda>" q params body scope cl pm cv ctv) ⟨us, []⟩ = pure (ps.zip us))
    (hf : LamAt s0.heap f q params body scope cl c') (hn : H0 f = none) (hfr : f ∉ frs stack) (C : CellsAt cl fr ws s0.heap H0)
    (hr : Room (k + 1) (A0.deeper (envOfC qg sg s0.heap.objs.size g cdg))) (hx : Passes CX (cxOf CXg P w K mg base Ng qg sg g cdg A0 stack s0 H0 Eg) E)
    (hlen : ∀ vs H Q E, sp vs H Q E → vs.length = ps.length)
    (hbody : ∀ (A : Around) (outer : List Env) (s : Shared) (H : Hp) (vs : List V) (Q : VK), Room k (A.deeper (envF (lamNF q params scope cl c') f s.heap.objs.size)) → sp vs H Q E → ∃ t, PE (ncx CX P w K mg base N (lamNF q params scope cl c') f A outer s H E) body t ∧ t (startF N vs ws) H Q)
    (hN : Ng[i]? = some a) (hv : Vis sg a) (ha : PA (cxOf CXg P w K mg base Ng qg sg g cdg A0 stack s0 H0 Eg) (e :: es) t) (hd : (a == ("__debug__" : Str)) = false := by decide) (hcd : (a == ("__classdict__" : Str)) = false := by decide)
    (he : starEach (e :: es) (cxOf CXg P w K mg base Ng qg sg g cdg A0 stack s0 H0 Eg).env = (false, eval e (cxOf CXg P w K mg base Ng qg sg g cdg A0 stack s0 H0 Eg).env) :: starEach es (cxOf CXg P w K mg base Ng qg sg g cdg A0 stack s0 H0 Eg).env := by rfl)
    (hpl : (backTo p2 (starEach es (cxOf CXg P w K mg base Ng qg sg g cdg A0 stack s0 H0 Eg).env)).any (·.1) = false := by rfl) :
    PE (cxOf CXg P w K mg base Ng qg sg g cdg A0 stack s0 H0 Eg) (.Call (.Name a p1) (e :: es) [] p2) (fun σ H Q => σ[i]? = some (some (.ref f)) ∧ t σ H fun vs H1 => H1 c' = some (CodeO c' q) ∧ sp vs H1 Q E) := by
  refine ⟨fun pins s σ H Q I h => ?_⟩
  obtain ⟨hs, h⟩ := h
  refine wpAny_Call_Name_kw (thn ((pe_var (pos := p1) hN hv hd hcd).run pins s σ H (fun v H1 => v = .ref f ∧ H1 = H) I ⟨.ref f, hs, rfl, rfl⟩) fun u s1 ⟨v, H1, I1, r1, q1⟩ => ?_)
  obtain ⟨ev, eH⟩ := q1
  subst ev
  rw [eH] at I1
  obtain rfl : u = Value.ref f := r1
  have still : ∀ {pins : List (Addr × Obj)} {σ : L2.St} {H : Hp} {s : Shared}, Inv (cxOf CXg P w K mg base Ng qg sg g cdg A0 stack s0 H0 Eg) pins σ H s → LamAt s.heap f q params body scope cl c' := fun {_ _ _ _} J => by
    obtain ⟨pm, ctv, ho⟩ := hf
    exact ⟨pm, ctv, J.base.keep f _ ho hn hfr (fun z => nomatch (show f ∈ ([] : List Addr) from z))⟩
  have fn : ∀ {h : Heap}, LamAt h f q params body scope cl c' → FnAt f h := fun {h} ⟨pm, ctv, ho⟩ => ⟨_, _, _, _, ho⟩
  refine callWith_F (first := []) (fn (still I1)) (thn (ha.run p2 pins s1 σ H _ I1 h) fun us s2 ⟨vs, H2, I2, r, h1, h2⟩ => ⟨fn (still I2), ?_⟩) he hpl
  show wpAny _ _ (call (.ref f) us) _ _ _
  refine wpAny_call (codeAny_mono (lam_code (CX := CX) (N := N) (ws := ws) (vs := vs) S hb hr I2.env0 (still I2) h1 (cells_still C rfl I2) r (hlen _ _ _ _ h2) fun hr' _ => hbody _ _ _ _ _ _ hr' h2) fun rs s' hq => ?_)
  cases rs with
  | error e => exact hx pins σ _ _ e s' I2 hq
  | ok fl =>
    cases fl with
    | ret z => exact I2.after hq
    | next => exact False.elim hq
    | brk => exact False.elim hq
    | cont => exact False.elim hq
end
section
variable {X : Cx}
/-- o.m(lambda ..) -/
def tMLam (C : Addr) (m q : Str) (T : List (Addr × Str)) (GR : Addr → Addr → L2.St → Hp → VK → Prop) (ta : TE) : TE := fun σ H Q => ta σ H fun x H1 => ∃ a dx fs, x = .ref a ∧ H1 a = some (.ins C dx fs) ∧ fs.lookup m = none ∧ Tabs T H1 ∧
  ∀ H2 c', ExtN H1 H2 → Tabs T H2 → H2 c' = some (CodeO c' q) → GR a c' σ H2 Q
theorem pe_methLam {CXg : CXT} {E : XK} {o body : Expr} {ta : TE} {C g c PP : Addr} {m nm qg : Str} {pg : Arguments} {bg : List Stmt} {sg : Scope} {dV kV doc pm cdv ct oc : Value} {an od : Option Addr} {osl : Array (Option Value)} {Ng psg : List Str} {T : List (Addr × Str)}
    {GR : Addr → Addr → L2.St → Hp → VK → Prop} {params : Arguments} {scope : Scope} {lpos apos pos : Pos} {k : Nat} {pl : Sem Bool} (he : PE X o ta) (hc : Cls X.K C) (hm : Meth X.K C m g)
    (lk : X.K.lookup g = some ⟨oc, od, .func (fnOf nm qg pg bg sg dV kV doc pm an cdv ct), osl⟩) (hcg : codeIn X.K cdv qg = true) (hb : Binds X.K (fnOf nm qg pg bg sg dV kV doc pm an cdv ct) psg []) (Sg : FnScope Ng psg sg) (h2 : psg.length = 2)
    (TB : TabB X.base X.mg c PP) (hcode : X.env.code = .ref c) (hmT : (PP, X.env.qual ++ "<lambda>") ∈ T) (hu : ∀ p ∈ T, p.1 = PP → p.2 = X.env.qual ++ "<lambda>") (hr : Room (k + 1) X.A) (hdef : defaultsOf params X.env = ([], []))
    (hfree : X.Ok → ∀ y ∈ scope.names, y.2 = .free → ∃ c, X.env.cells.lookup y.1 = some c) (hx : Passes CXg X E)
    (hG : ∀ (pins : List (Addr × Obj)) (f c' a : Addr) (s : Shared) (σ : L2.St) (H : Hp) (Q : VK), Inv X pins σ H s → LamAt s.heap f (X.env.qual ++ "<lambda>") params body scope (cloFrom X.env.cells scope.names []) c' → H f = none → f ∉ frs X.stack → H c' = some (CodeO c' (X.env.qual ++ "<lambda>")) →
      GR a c' σ H Q → Room k (X.A.deeper (envOfC qg sg s.heap.objs.size g cdv)) → ∃ t, PSs (cxOf CXg X.prog X.w X.K X.mg X.base Ng qg sg g cdv X.A X.stack s H E) bg t ∧ t { nx := fun _ H' => Q .non H', rt := Q } (L2.start Ng [.ref a, .ref f]) H)
    (ht : eval (.Call (.Attribute o m apos) [.Lambda params body scope lpos] [] pos) X.env = (do
      let u ← eval o X.env
      standAt apos.atName
      let (f, first) ← holding [u] (getMethod u m pl)
      callWith pos f first (backTo pos (starEach [.Lambda params body scope lpos] X.env)) (backToKw pos (keywordEach [] X.env))) := by rfl) :
    PE X (.Call (.Attribute o m apos) [.Lambda params body scope lpos] [] pos) (tMLam C m (X.env.qual ++ "<lambda>") T GR ta) := by
  refine ⟨fun pins s σ H Q I h => ?_⟩
  refine methodCall_KW (pl := pl) (thn (he.run pins s σ H _ I h) fun u s1 ⟨x, H1, I1, rx, a, dx, fs, ex, ea, l, hT, q⟩ => ?_) ht
  subst ex
  obtain rfl : u = Value.ref a := rx
  refine getmeth_ok I1 ea hc hm l ?_
  refine callWith_K (first := [.ref a]) (h₀ := X.base) I1.ok.mod.kin hm.kp ?_ (by rfl) (by rfl)
  show wpAny _ _ (spliced ((false, eval (.Lambda params body scope lpos) X.env) :: backTo pos (starEach [] X.env))) _ _ s1
  refine Calls.spliced_cons (lam_make2 I1 TB hcode hmT hu hT hdef (hfree I1.ok) fun f c' pm' ctv H2 s2 I2 eN T2 hf hfn hfr hco => ?_)
  refine Calls.spliced_nil ⟨I2.kIn, ?_⟩
  have rc : codeAny (model X.prog X.w) X.A (.call (.ref g) ⟨[.ref a, .ref f], []⟩) (CR CXg X.stack X.prog X.w H2 s2 Q E) s2 := by
    refine run_ofS (N := Ng) (ps := psg) (us := [.ref a, .ref f]) (vs := [.ref a, .ref f]) lk hcg Sg hr I2.env0 (by
      have := hb s2 [.ref a, .ref f] I2.kIn (by rw [h2]; rfl)
      simpa using this) (.cons rfl (.cons rfl .nil)) h2.symm fun hr' => ?_
    exact hG _ f c' a s2 σ H2 Q I2 ⟨pm', ctv, hf⟩ hfn hfr hco (q H2 c' eN T2 hco) hr'
  refine wpAny_call (codeAny_mono rc fun r s3 hq => ?_)
  cases r with
  | error e => exact hx _ σ _ _ e s3 I2 hq
  | ok fl =>
    cases fl with
    | ret z => exact I2.after hq
    | next => exact False.elim hq
    | brk => exact False.elim hq
    | cont => exact False.elim hq
end
end Oo
set_option Elab.async false
set_option linter.all false
set_option maxRecDepth 100000
set_option maxHeartbeats 1000000
/-! The tables of lambdas; take_fix_behind. -/
namespace K7
open PySem PySem.Spec PyProof.Rows L2 RV EV He EF EI LamX NdefX
def qOf (q : Str × Nat) : Str := (envOfC q.1 (defScope (top q.2)) 0 0 .none).qual ++ "<lambda>"
def cc (K : PySem.W.Frag) (q : Str × Nat) : Addr × Addr := cT K (q.1, none)
def lamN : List (Str × Nat) := [("take_fix_behind", 21), ("_law_read_right", 49), ("_law_refused_right", 51)]
def TL (K : PySem.W.Frag) : List (Addr × Str) := lamN.map fun q => ((cc K q).2, qOf q)
theorem map_inj {α β : Type} {f : α → β} : ∀ {l : List α}, (l.map f).Nodup → ∀ {a b : α}, a ∈ l → b ∈ l → f a = f b → a = b
  | x :: r, h, a, b, ha, hb, e => by
    obtain ⟨h1, h2⟩ := List.nodup_cons.mp (show (f x :: r.map f).Nodup from h)
    rcases List.mem_cons.mp ha with e1 | a1
    · rcases List.mem_cons.mp hb with e2 | b2
      · rw [e1, e2]
      · exact absurd (by rw [← e1, e]; exact List.mem_map_of_mem b2) h1
    · rcases List.mem_cons.mp hb with e2 | b2
      · exact absurd (by rw [← e2, ← e]; exact List.mem_map_of_mem a1) h1
      · exact map_inj h2 a1 b2 e
section
variable {P : Program} {w : World} {K : PySem.W.Frag} {mg : Str → Option Value} {base : Heap}
theorem tl_one (T : KF P w K mg base) {q : Str × Nat} (hq : q ∈ lamN) : ∀ p ∈ TL K, p.1 = (cc K q).2 → p.2 = qOf q := by
  intro p hp e
  obtain ⟨q', hq', rfl⟩ := List.mem_map.mp hp
  have nd : (lamN.map fun q => (cc K q).2).Nodup := T.tn
  rw [map_inj nd hq' hq e]
theorem tl_mem {q : Str × Nat} (hq : q ∈ lamN) : ((cc K q).2, qOf q) ∈ TL K := List.mem_map_of_mem (f := fun q => ((cc K q).2, qOf q)) hq
/-- all but the thing at p and the tables stay -/
def Ext2 (H H' : Hp) (p : Addr) : Prop := ∀ c o, c ≠ p → H c = some o → (∀ ps, o ≠ .tbl ps) → H' c = some o
theorem Same.extN {H H' : Hp} (s : Same H H') : ExtN H H' := fun c o e _ => s c o e
structure OutT (K : PySem.W.Frag) (H : Hp) (p dx tp : Addr) (ws : List Str) (ln : Int) (t : Nat) (b : Bool) (v : V) (Q : VK) (E : XK) : Prop where
  yes : b = true → ∀ H', Ext2 H H' p → Tabs (TL K) H' → WO K H' p dx tp ws ln (t + 1) → Q v H'
  no : b = false → ∀ H', ExtN H H' → Tabs (TL K) H' → BadE K H' E (.int ln) (.int t)
theorem WO.extN {H H' : Hp} {p dx tp : Addr} {ws : List Str} {ln : Int} {t : Nat} (O : WO K H p dx tp ws ln t) (s : ExtN H H') : WO K H' p dx tp ws ln t := ⟨s _ _ O.ob (fun _ z => nomatch z), s _ _ O.ps (fun _ z => nomatch z), O.le, O.lz⟩
abbrev qTfb : Str × Nat := ("take_fix_behind", 21)
def spTfb (K : PySem.W.Frag) : Sp := fun vs H Q E => ∃ p dx tp ws ln t last, vs = [.ref p, .str last] ∧ WO K H p dx tp ws ln t ∧ (∀ x ∈ ws, x.length ≤ 1000000) ∧ Tabs (TL K) H ∧
  OutT K H p dx tp ws ln t (decide (t < ws.length) && (isFixB (ws.getD t "") && decide (LtS last (ws.getD t "")))) (.str (ws.getD t "")) Q E
abbrev scTb_N : List Str := ["words", "last"]
theorem scTb : FnScope scTb_N ["words", "last"] (defScope (top 21)) := ⟨rfl, rfl, rfl, by decide +kernel, rfl, by decide +kernel, by decide +kernel⟩
/-- the lambda's promise -/
def spRule (last : Str) : Sp := fun vs H Q _ => ∃ x, vs = [.str x] ∧ x.length ≤ 1000000 ∧ ∀ H', Same H H' → Q (.bl (isFixB x && decide (LtS last x))) H'
theorem cells_lam {X : Cx} {pins : List (Addr × Obj)} {σ : L2.St} {H : Hp} {s : Shared} {f c' : Addr} {q : Str} {params : Arguments} {body : Expr} {scope sc : Scope} {fr : List Str} {js : List Nat} (I : Inv X pins σ H s)
    (_hf : Oo.LamAt s.heap f q params body scope (cloFrom X.env.cells scope.names []) c') (hsc : X.env.scope = sc) (h : ndefB sc scope fr = true) (hjs : js.map (fun j => X.N[j]?) = fr.map some) : CellsAt (cloFrom X.env.cells scope.names []) fr (js.map (slotAt σ)) s.heap H := by
  subst hsc
  exact cells_of I (Caps.made I.ok (ndef_free h) (ndef_fr h) hjs)
theorem tabs_two {K : PySem.W.Frag} {H H' : Hp} {p : Addr} {o : HO} (t : Tabs (TL K) H) (hp : H p = some o) (no : ∀ ps, o ≠ .tbl ps) (no2 : ∀ φ, o ≠ .ext φ) (s : Same2 H H' p) : Tabs (TL K) H' := fun q hq => by
  obtain ⟨ps, h1, h2, h3⟩ := t q hq
  have ne : q.1 ≠ p := fun e => by
    rw [e, hp] at h1
    exact no ps (Option.some.inj h1)
  refine ⟨ps, s _ _ ne h1, h2, fun pos cv hc => ?_⟩
  obtain ⟨c, e1, e2⟩ := h3 pos cv hc
  have nc : c ≠ p := fun e => by
    rw [e, hp] at e2
    exact no2 _ (Option.some.inj e2)
  exact ⟨c, e1, s _ _ nc e2⟩
theorem rule_scope (sc : Scope) : NdefX.nscB ["word", "last"] ["word"] ["last"] sc = NdefX.nscB ["word", "last"] ["word"] ["last"] sc := rfl
/-- the body of take_by, with a lambda as its rule: what follows -/
def GRby (K : PySem.W.Frag) (q : Str) (p : Addr) (c' : Addr) (E : XK) (last : Str) (H : Hp) (Q : VK) : Prop := ∃ dx tp ws ln t, WO K H p dx tp ws ln t ∧ (∀ x ∈ ws, x.length ≤ 1000000) ∧ H c' = some (CodeO c' q) ∧
  Out K H p dx tp ws ln t (decide (t < ws.length) && (isFixB (ws.getD t "") && decide (LtS last (ws.getD t "")))) (.str (ws.getD t "")) Q E
theorem ok_tfb (T : KF P w K mg base) (TB : TabB base mg (cc K qTfb).1 (cc K qTfb).2) : ∃ fd, FnOk P w K mg base (L2.CX P w) 6 (ga K "take_fix_behind") fd ["words", "last"] (spTfb K) ∧ L2.Binds K fd ["words", "last"] [] ∧ PySem.W.keepIn K (.ref (ga K "take_fix_behind")) = true ∧ mg "take_fix_behind" = some (.ref (ga K "take_fix_behind")) := by
  obtain ⟨fd, F, g⟩ := T.tops qTfb (by decide)
  have b : L2.Binds K fd ["words", "last"] [] := FunD.bindsN F fun _ _ _ _ _ _ us hl => match us, hl with | [_, _], _ => rfl
  have kp := F.kp
  obtain ⟨oc, od, dV, kV, doc, pm, an, cdv, ct, osl, rfl, lk, hcd, _, _⟩ := F.ex
  obtain ⟨c, rfl⟩ := He.codeIn_ref hcd
  have ec : (cc K qTfb).1 = c := He.codeOf_eq (p := ("take_fix_behind", none)) lk rfl
  obtain ⟨_, fb, Fb⟩ := T.meth ("take_by", 9) (by decide)
  have bb : L2.Binds K fb ["self", "rule"] [] := FunD.bindsN Fb fun _ _ _ _ _ _ us hl => match us, hl with | [_, _], _ => rfl
  obtain ⟨oc2, od2, dV2, kV2, doc2, pm2, an2, cdv2, ct2, osl2, rfl, lk2, hcd2, _, _⟩ := Fb.ex
  obtain ⟨nx, ⟨fS, GS, bS⟩, ⟨fR, GR, bR⟩⟩ := mc T
  obtain ⟨fdF, FF, gF⟩ := T.tops ("is_fix", 4) (by decide)
  have GF : FnOk P w K mg base CX0 1 (ga K "is_fix") fdF ["value"] (spFix K) := ok_fix FF (blt2 T)
  have bF : L2.Binds K fdF ["value"] [] := FunD.bindsN FF fun _ _ _ _ _ _ us hl => match us, hl with | [_], _ => rfl
  refine ⟨_, L2.fn_of lk hcd scTb (fun vs H Q E h => ?_) (fun A outer s H vs Q E hr h => ?_), b, kp, g⟩
  · obtain ⟨p, dx, tp, ws, ln, t, last, rfl, _⟩ := h
    rfl
  · obtain ⟨p, dx, tp, ws, ln, t, last, rfl, O, hz, hT, o⟩ := h
    refine ⟨_, pss_one (ps_ret (Oo.pe_methLam (CXg := L2.CX P w) (E := E) (T := TL K) (c := c) (PP := (cc K qTfb).2) (k := 4) (GR := fun a c' σ H Q => a = p ∧ slotAt σ 1 = some (.str last) ∧ GRby K (qOf qTfb) p c' E last H Q) (pv 0) T.cl (mt T ("take_by", 9) (by decide)) lk2 hcd2 bb scBy rfl (ec ▸ TB) rfl (tl_mem (by decide)) (tl_one T (by decide)) hr rfl
      ?free (passes_call (takes_of rfl rfl rfl rfl) fun _ _ _ _ h => h) ?body)), ?_⟩
    case free => exact fun ok y hy e => (ndef_free (sc := defScope (top 21)) (fr := ["last"]) (by decide +kernel) y hy e).elim (fun z => ok.has _ (.inl z)) fun z => ok.has _ (.inr z)
    case body =>
      rintro pins f c' a s1 σ H1 Q1 I hf hn hfr hco ⟨rfl, hsl, dx, tp, ws, ln, t, O, hz, hc, o⟩ hr1
      have C := cells_lam (fr := ["last"]) (js := [1]) (sc := defScope (top 21)) I hf rfl (by decide +kernel) rfl
      rw [show ([1].map (slotAt σ)) = [some (V.str last)] from by rw [List.map_cons, hsl]; rfl] at C
      refine ⟨_, pss_cons (ps_if (PW.pt (pw_or (pt_not (pt_val (pe_meth0R (E := E0) (pv 0) T.cl (mt T ("is_next", 5) (by decide)) nx (hr1.mono (by decide)) pass0)))
          (pw_or1 (pt_cmpR op_isnot_bl (Oo.pe_rule (CX := L2.CX P w) (E := E) (N := ["word", "last"]) (ps := ["word"]) (fr := ["last"]) (k := 1) (i := 1) (sp := spRule last) (nscope_by (by decide +kernel)) (fun _ _ _ us hl => match us, hl with | [_], _ => rfl) hf hn hfr C (hr1.mono (by decide)) (passes_call (takes_of rfl rfl rfl rfl) fun _ _ _ _ h => h) ?len ?lam rfl (.inl rfl)
            (pa_cons (pe_ix ix_tup (pe_fld (pv 0) rfl) (pe_fld (pv 0) rfl) (fun _ _ => rfl)) pa_nil)) pe_bl (nomark _)))))
        (pss_one (ps_expr (pe_meth0 (E := E) (pv 0) T.cl (mt T ("refuse", 11) (by decide)) GR (hr1.mono (by decide)) bR .nil (passes_call (takes_of rfl rfl rfl rfl) fun _ _ _ _ h => h)))) pss_nil)
      (pss_one (ps_ret (pe_meth0 (E := E0) (pv 0) T.cl (mt T ("step", 10) (by decide)) GS (hr1.mono (by decide)) bS .nil pass0))), ?_⟩
      case len =>
        rintro vs H Q E ⟨x, rfl, _⟩
        rfl
      case lam =>
        rintro A2 outer2 s2 H2 vs2 Q2 hr2 ⟨x, rfl, hx, k⟩
        refine ⟨_, pe_and (pe_call (E := E0) GF hr2 (by rfl) gF FF.kp bF .nil pass0 (pa_cons (pv 0) pa_nil)) (pe_one (pe_cmpR op_gt_str (pv 0) (pv 1) (nomark _))), ?_⟩
        refine ⟨_, rfl, ?_⟩
        unfold tNil
        show spFix K [V.str x] H2 _ _
        refine ⟨_, rfl, .inl ⟨x, rfl, hx, fun H' s' => ⟨_, rfl, ?_⟩⟩⟩
        have k' := k H' s'
        cases e : isFixB x with
        | true =>
          rw [e, Bool.true_and] at k'
          exact if_posB rfl ⟨_, rfl, _, rfl, x, last, rfl, rfl, k'⟩
        | false =>
          rw [e, Bool.false_and] at k'
          exact if_negB rfl k'
      · refine ⟨_, rfl, a, dx, _, rfl, O.ob, rfl, nxt_of [] O (by decide) fun H2 s2 => ⟨nextB ws t [], rfl, ?_⟩⟩
        have O1 := O.same s2
        by_cases h : t < ws.length
        · rw [show nextB ws t [] = true by unfold nextB; rw [decide_eq_true h]; rfl]
          refine if_negB rfl ⟨rfl, _, rfl, a, _, dx, _, _, rfl, O1.ob, T.cl, T.noP, rfl, _, rfl, a, _, dx, _, _, rfl, O1.ob, T.cl, T.noT, rfl, tp, _, _, .str (ws.getD t ""), rfl, rfl, SqT.of O1.ps, atI_nat ?_, ?_⟩
          · rw [List.getElem?_map, getD_at h]
            rfl
          · refine ⟨s2 _ _ hc, _, rfl, hz _ (getD_mem h), fun H3 s3 => ⟨_, true, rfl, rfl, _, rfl, ?_⟩⟩
            have O2 := O1.same s3
            have o2 := (o.same s2).same s3
            rw [decide_eq_true h, Bool.true_and] at o2
            cases e : (isFixB (ws.getD t "") && decide (LtS last (ws.getD t ""))) with
            | true => exact if_negB rfl ⟨_, rfl, a, dx, _, rfl, O2.ob, rfl, a, dx, tp, ws, ln, t, rfl, O2, h, fun H4 s4 O4 => o2.yes e H4 s4 O4⟩
            | false => exact if_posB rfl ⟨_, rfl, a, dx, _, rfl, O2.ob, rfl, a, dx, tp, ws, ln, t, rfl, O2, o2.no e H3 fun _ _ e => e⟩
        · rw [show nextB ws t [] = false by unfold nextB; rw [decide_eq_false h]; rfl]
          exact if_posB rfl (if_posB rfl ⟨_, rfl, a, dx, _, rfl, O1.ob, rfl, a, dx, tp, ws, ln, t, rfl, O1, o.no (by rw [decide_eq_false h]; rfl) H2 s2⟩)
    · refine ⟨_, rfl, p, dx, _, rfl, O.ob, rfl, hT, fun H2 c' eN T2 hc => ⟨rfl, rfl, dx, tp, ws, ln, t, O.extN eN, hz, hc, ?_⟩⟩
      refine ⟨fun e H' s' O' => ?_, fun e H' s' => ?_⟩
      · exact o.yes e H' (fun c u hc e2 n => s' c u hc (eN c u e2 n)) (tabs_two T2 (eN _ _ O.ob fun _ z => nomatch z) (fun _ z => nomatch z) (fun _ z => nomatch z) s') O'
      · exact o.no e H' (fun c u e2 n => s' c u (eN c u e2 n)) (T2.ext s')
end
end K7
set_option Elab.async false
set_option linter.all false
set_option maxRecDepth 100000
set_option maxHeartbeats 1000000
/-! A list comprehension whose test and whose element change nothing that was there. -/
namespace K7
open PySem PySem.Spec PyProof.Rows L2 RV EV He EF EI LamX NdefX
theorem lc_gen {α : Type} {J : It} {G : Hp → Prop} {Y : Nat → Hp → V → Hp → Prop} {enc out : α → V} {p : α → Bool} {ns : List α} {i : Nat} {σ : L2.St} {H1 : Hp} {tt : TT} {te : TE} {D : Addr} {Qd : Hp → Prop} (nD : H1 D = none) (w : Walk J ns.length G Y) (hn : ns.length ≤ 1000)
    (hY : ∀ n x H H', Y n H x H' → H' = H ∧ ∃ z, ns[n]? = some z ∧ x = enc z) (hG : ∀ H', Same H1 H' → G H') (hw : ∀ v, wipe ((wipe σ [i]).set i (some v)) [i] = wipe σ [i])
    (ht : ∀ z ∈ ns, ∀ (H' : Hp) (F : Bool → Hp → Prop), Same H1 H' → (∀ H'', Same H' H'' → F (p z) H'') → tt ((wipe σ [i]).set i (some (enc z))) H' F)
    (he : ∀ z ∈ ns, p z = true → ∀ (H' : Hp) (F : VK), Same H1 H' → (∀ H'', Same H' H'' → F (out z) H'') → te ((wipe σ [i]).set i (some (enc z))) H' F)
    (k : ∀ H', Same H1 H' → H' D = some (.lst ((ns.filter p).map out)) → Qd H') :
    ∃ W : Nat → Nat → Hp → Prop, (∃ m, W 0 m (upd H1 D (.lst []))) ∧ ∀ n m H, W n m H →
      (J.stop n H ∧ Qd H) ∨ (J.go n H ∧ ∃ Nx : Hp → Prop, (∀ H', Nx H' → ∃ m', m' < m ∧ W (n + 1) m' H') ∧ ∀ x H', J.yld n H x H' → gName i x (wipe σ [i]) H' fun σ2 H2 => wipe σ2 [i] = wipe σ [i] ∧ tt σ2 H2 fun b H3 =>
        if b = true then te σ2 H3 fun y H4 => ∃ acc, H4 D = some (.lst acc) ∧ acc.length < sizeLine ∧ Nx (upd H4 D (.lst (acc ++ [y]))) else Nx H3) := by
  have keep : ∀ {H' : Hp} {o : HO}, Same H1 H' → Same H1 (upd H' D o) := fun s c u e => by
    rw [upd_ne (ne_of_none e nD)]
    exact s c u e
  refine lc_it w (fun n H' => Same H1 H' ∧ H' D = some (.lst (((ns.take n).filter p).map out))) ⟨keep fun _ _ e => e, upd_same⟩ (fun n H' _ q => hG H' q.1) ?_ ?_
  · rintro n x H H' hi ⟨s1, hD⟩ hy
    obtain ⟨rfl, z, hz, rfl⟩ := hY n x H H' hy
    obtain ⟨hl, hv⟩ := List.getElem?_eq_some_iff.mp hz
    have more : ns.take (n + 1) = ns.take n ++ [z] := by rw [← hv]; exact List.take_succ_eq_append_getElem hl
    have mem : z ∈ ns := by rw [← hv]; exact List.getElem_mem hl
    have es : (ns.take (n + 1)).filter p = (ns.take n).filter p ++ (if p z = true then [z] else []) := by
      rw [more, List.filter_append]
      congr 1
      by_cases h : p z = true
      · rw [if_pos h, List.filter_cons, if_pos h, List.filter_nil]
      · rw [if_neg h, List.filter_cons, if_neg h, List.filter_nil]
    refine ⟨hw _, ht z mem _ _ s1 fun H2 s2 => ?_⟩
    by_cases h : p z = true
    · refine if_posB h (he z mem h _ _ (s1.trans s2) fun H3 s3 => ⟨_, s3 _ _ (s2 _ _ hD), ?_, keep ((s1.trans s2).trans s3), ?_⟩)
      · have l1 : ((ns.take n).filter p).length ≤ (ns.take n).length := List.length_filter_le _ _
        rw [List.length_take] at l1
        rw [List.length_map, sizeLine_eq]
        omega
      · rw [upd_same, es, if_pos h, List.map_append]
        rfl
    · refine if_negB (Bool.not_eq_true _ ▸ h) ⟨s1.trans s2, ?_⟩
      rw [es, if_neg h, List.append_nil]
      exact s2 _ _ hD
  · rintro H ⟨s, hD⟩
    rw [List.take_of_length_le (Nat.le_refl _)] at hD
    exact k H s hD
theorem at_map {α : Type} {enc : α → V} {ns : List α} : ∀ n x H H', YAt (ns.map enc) n H x H' → H' = H ∧ ∃ z, ns[n]? = some z ∧ x = enc z := by
  rintro n x H H' ⟨rfl, hx⟩
  rw [List.getElem?_map] at hx
  cases e : ns[n]? with
  | none => rw [e] at hx; exact nomatch hx
  | some z =>
    rw [e] at hx
    exact ⟨rfl, z, rfl, (Option.some.inj hx).symm⟩
section
variable {α : Type} {K : PySem.W.Frag} {enc out : α → V} {p : α → Bool} {ns : List α} {i : Nat} {σ : L2.St} {H1 : Hp} {tt : TT} {te : TE} {D : Addr} {Qd : Hp → Prop} {a : Addr}
/-- what is asked of a comprehension's test and element -/
structure LcOk {α : Type} (enc out : α → V) (p : α → Bool) (ns : List α) (i : Nat) (σ : L2.St) (H1 : Hp) (tt : TT) (te : TE) (D : Addr) (Qd : Hp → Prop) : Prop where
  nD : H1 D = none
  hn : ns.length ≤ 1000
  hw : ∀ v, wipe ((wipe σ [i]).set i (some v)) [i] = wipe σ [i]
  ht : ∀ z ∈ ns, ∀ (H' : Hp) (F : Bool → Hp → Prop), Same H1 H' → (∀ H'', Same H' H'' → F (p z) H'') → tt ((wipe σ [i]).set i (some (enc z))) H' F
  he : ∀ z ∈ ns, p z = true → ∀ (H' : Hp) (F : VK), Same H1 H' → (∀ H'', Same H' H'' → F (out z) H'') → te ((wipe σ [i]).set i (some (enc z))) H' F
  k : ∀ H', Same H1 H' → H' D = some (.lst ((ns.filter p).map out)) → Qd H'
abbrev LcGo (J : It) (i : Nat) (σ : L2.St) (H1 : Hp) (tt : TT) (te : TE) (D : Addr) (Qd : Hp → Prop) : Prop := ∃ W : Nat → Nat → Hp → Prop, (∃ m, W 0 m (upd H1 D (.lst []))) ∧ ∀ n m H, W n m H →
      (J.stop n H ∧ Qd H) ∨ (J.go n H ∧ ∃ Nx : Hp → Prop, (∀ H', Nx H' → ∃ m', m' < m ∧ W (n + 1) m' H') ∧ ∀ x H', J.yld n H x H' → gName i x (wipe σ [i]) H' fun σ2 H2 => wipe σ2 [i] = wipe σ [i] ∧ tt σ2 H2 fun b H3 =>
        if b = true then te σ2 H3 fun y H4 => ∃ acc, H4 D = some (.lst acc) ∧ acc.length < sizeLine ∧ Nx (upd H4 D (.lst (acc ++ [y]))) else Nx H3)
/-- over a list -/
theorem lcl (hl : ∀ H', Same H1 H' → SqL K H' a (ns.map enc)) (o : LcOk enc out p ns i σ H1 tt te D Qd) : LcGo (Itl K a) i σ H1 tt te D Qd :=
  lc_gen o.nD (w := by have w := walk_list (K := K) (a := a) (xs := ns.map enc); rw [List.length_map] at w; exact w) o.hn at_map (fun H' s => hl H' s) o.hw o.ht o.he o.k
/-- over a tuple -/
theorem lct (hl : ∀ H', Same H1 H' → SqT K H' a (ns.map enc)) (o : LcOk enc out p ns i σ H1 tt te D Qd) : LcGo (Itt K a) i σ H1 tt te D Qd :=
  lc_gen o.nD (w := by have w := walk_tup (K := K) (a := a) (xs := ns.map enc); rw [List.length_map] at w; exact w) o.hn at_map (fun H' s => hl H' s) o.hw o.ht o.he o.k
theorem tests_yes {z : α} {σ : L2.St} {H' : Hp} {F : Bool → Hp → Prop} (k : ∀ H'', Same H' H'' → F ((fun _ : α => true) z) H'') : tYes σ H' F := k H' fun _ _ e => e
theorem all_yes (ns : List α) : ns.filter (fun _ => true) = ns := List.filter_eq_self.mpr fun _ _ => rfl
end
end K7
set_option Elab.async false
set_option linter.all false
set_option maxRecDepth 100000
set_option maxHeartbeats 1000000
/-! Note: __init__, __neg__, __eq__, __bool__. -/
namespace K7
open PySem PySem.Spec PyProof.Rows L2 RV EV He EF EI
/-- a note at p: the lots of what is gained and of what is lost -/
structure NO (K : PySem.W.Frag) (H : Hp) (p dx g l : Addr) (ga lo : List Str) : Prop where
  ob : H p = some (.ins (gNo K) dx [("gained", .ref g), ("lost", .ref l)])
  g : IsLot K H g ga
  l : IsLot K H l lo
abbrev IsNote (K : PySem.W.Frag) (H : Hp) (p : Addr) (ga lo : List Str) : Prop := ∃ dx g l, NO K H p dx g l ga lo
theorem IsLot.same {K : PySem.W.Frag} {H H' : Hp} {p : Addr} {ns : List Str} (o : IsLot K H p ns) (s : Same H H') : IsLot K H' p ns := let ⟨dx, tp, O⟩ := o; ⟨dx, tp, O.same s⟩
theorem NO.same {K : PySem.W.Frag} {H H' : Hp} {p dx g l : Addr} {ga lo : List Str} (o : NO K H p dx g l ga lo) (s : Same H H') : NO K H' p dx g l ga lo := ⟨s _ _ o.ob, o.g.same s, o.l.same s⟩
theorem IsNote.same {K : PySem.W.Frag} {H H' : Hp} {p : Addr} {ga lo : List Str} (o : IsNote K H p ga lo) (s : Same H H') : IsNote K H' p ga lo := let ⟨dx, g, l, N⟩ := o; ⟨dx, g, l, N.same s⟩
def apartB (xs ys : List Str) : Bool := !(xs.any fun x => decide (x ∈ ys))
section
variable {P : Program} {w : World} {K : PySem.W.Frag} {mg : Str → Option Value} {base : Heap}
theorem r_co (T : KF P w K mg base) : FnR P w K mg base CX0 2 (lAd K "__contains__") (spCoL K) := by
  obtain ⟨_, fd, F⟩ := T.lot ("__contains__", 6) (by decide)
  exact Oo.FnOk.r0 (ok_coL T F) (FunD.bindsN F fun _ _ _ _ _ _ us hl => match us, hl with | [_, _], _ => rfl)
abbrev iLot (X : Cx) (te : TE) : TI := Ow.iOwn X (gO X.K) 1 (lAd X.K "__iter__") te
abbrev tInL (K : PySem.W.Frag) (i j : Nat) : TE := tOp (Oo.rInO (gO K) (fun b => b) (spCoL K) E0) (tVar i) (tVar j)
abbrev iSt : Stmt := nSt 0
abbrev scNoI_N : List Str := ["self", "gained", "lost", "fix"]
theorem scNoI : FnScope scNoI_N ["self", "gained", "lost"] (defScope iSt) := ⟨rfl, rfl, rfl, by decide +kernel, rfl, by decide +kernel, by decide +kernel⟩
def spNoI (K : PySem.W.Frag) : Sp := fun vs H Q _ => ∃ p dx g l ga lo, vs = [.ref p, .ref g, .ref l] ∧ H p = some (.ins (gNo K) dx []) ∧ g ≠ p ∧ l ≠ p ∧ IsLot K H g ga ∧ IsLot K H l lo ∧ apartB ga lo = true ∧
  ∀ H', Same2 H H' p → H' p = some (.ins (gNo K) dx [("gained", .ref g), ("lost", .ref l)]) → Q .non H'
abbrev tIsL (K : PySem.W.Frag) (i : Nat) (s : Str) (E : XK) : TS := tIfS (tNot (tB (tCB (rIsi K) (tCons (tVar i) (tCons (tC (V.ref (gO K))) tNil))))) (tRaise1 (ga K "BadWay") "value" (tC (V.str s)) fun cls d x H => E cls d H) tNext
abbrev tAny (X : Cx) (i : Nat) (ti tj : TE) : TE := tCB (rAny X.K) (tCons (tLc (iLot X ti) (gName i) tYes (tOp (Oo.rInO (gO X.K) (fun b => b) (spCoL X.K) E0) (tVar i) tj) [i]) tNil)
theorem any_read {X : Cx} (T : KF X.prog X.w X.K X.mg X.base) {σ : L2.St} {H : Hp} {Q : VK} {i : Nat} {ti tj : TE} {g l : Addr} {ga lo : List Str} (hg : IsLot X.K H g ga) (hl : IsLot X.K H l lo)
    (h1 : ∀ R : VK, R (.ref g) H → ti σ H R) (h2 : ∀ (z : Str) (H' : Hp) (R : VK), Same H H' → R (.ref l) H' → tj ((wipe σ [i]).set i (some (.str z))) H' R)
    (hz : ∀ z : Str, ((wipe σ [i]).set i (some (V.str z)))[i]? = some (some (.str z))) (hw : ∀ v, wipe ((wipe σ [i]).set i (some v)) [i] = wipe σ [i])
    (k : ∀ H', Same H H' → Q (.bl (ga.any fun x => decide (x ∈ lo))) H') : tAny X i ti tj σ H Q := by
  obtain ⟨dg, tg, G⟩ := hg
  refine h1 _ ⟨g, dg, _, tg, _, rfl, G.ob, SqT.of G.ps, gives_iterL T G, fun D nD => ?_⟩
  have le8 := G.le
  refine lct (K := X.K) (a := tg) (σ := σ) (i := i) (tt := tYes) (p := fun _ => true) (enc := V.str) (out := fun x => V.bl (decide (x ∈ lo))) (ns := ga) (fun H' s => SqT.of (s _ _ G.ps)) ⟨nD, by omega, hw, fun z _ H' F s q => tests_yes (z := z) q, fun z hm _ H' F s q => ?_, fun H2 s2 hD => ?_⟩
  · obtain ⟨dl, tl, L⟩ := hl.same s
    refine ⟨_, hz z, h2 z H' _ s ⟨l, dl, _, rfl, L.ob, l, lo, .str z, rfl, ⟨dl, tl, L⟩, .inl ⟨z, rfl, G.fx z hm, fun H2 s2 => ⟨_, rfl, q H2 s2⟩⟩⟩⟩
  · rw [all_yes] at hD
    refine ⟨D, ga.map fun x => decide (x ∈ lo), rfl, SqL.of ?_, ?_⟩
    · rw [hD, List.map_map]
      rfl
    · have e : (ga.map fun x => decide (x ∈ lo)).any id = ga.any fun x => decide (x ∈ lo) := by
        rw [List.any_map]
        rfl
      rw [e]
      exact k H2 s2
theorem isL_read (T : KF P w K mg base) {σ : L2.St} {H : Hp} {E : XK} {D : Ends} {i : Nat} {s : Str} {g : Addr} {ga : List Str} (hs : σ[i]? = some (some (.ref g))) (hg : IsLot K H g ga) (k : D.nx σ H) : tIsL K i s E D σ H := by
  obtain ⟨dg, tg, G⟩ := hg
  exact ⟨_, hs, .ref g, .ref (gO K), _, _, true, rfl, .own _, ty_lot T G.ob, kit_lot T, true, rfl, if_negB rfl k⟩
theorem ok_noI (T : KF P w K mg base) {fd : FuncData} (F : FunD K "__init__" "Note.__init__" (defArgs iSt) (defBody iSt) (defScope iSt) [] [] (ma K (gNo K) "__init__") fd) : FnOk P w K mg base (L2.CX P w) 4 (ma K (gNo K) "__init__") fd ["self", "gained", "lost"] (spNoI K) := by
  refine F.ok scNoI (fun vs H Q E h => ?_) (fun cdv A outer s H vs Q E hr h => ?_)
  · obtain ⟨p, dx, g, l, ga, lo, rfl, _⟩ := h
    rfl
  · obtain ⟨p, dx, g, l, ga, lo, rfl, hp, ngp, nlp, hg, hl, ap, k⟩ := h
    refine ⟨_, pss_cons (ps_if (pt_not (pt_val (pe_callB call_isi (by rfl) (T.fr "isinstance" (by decide)) PyProof.Rows.boot_isinstance (pa_cons (pv 1) (pa_cons (pe_glob (v := .ref (gO K)) (by rfl) T.go rfl) pa_nil)))))
        (pss_one (ps_raise1 T.bw (hr.mono (by decide)) rfl (takes_of rfl rfl rfl rfl) (by rfl) pe_str)) pss_nil)
      (pss_cons (ps_if (pt_not (pt_val (pe_callB call_isi (by rfl) (T.fr "isinstance" (by decide)) PyProof.Rows.boot_isinstance (pa_cons (pv 2) (pa_cons (pe_glob (v := .ref (gO K)) (by rfl) T.go rfl) pa_nil)))))
        (pss_one (ps_raise1 T.bw (hr.mono (by decide)) rfl (takes_of rfl rfl rfl rfl) (by rfl) pe_str)) pss_nil)
      (pss_cons (ps_if (pt_val (pe_callB (cr_any rfl) (by rfl) (T.fr "any" (by decide)) boot_any (pa_cons (pe_lc (own := [("fix", 3)]) (g := gName 3) (tt := tYes) (te := tInL K 3 2) rfl scNoI.nd
            (Ow.pi_own (k := 1) (pv 1) (lm T ("__iter__", 8) (by decide)).at_ (lm T ("__iter__", 8) (by decide)).fn (hr.mono (by decide)))
            (blkOk_by (N := scNoI_N) (sc := defScope iSt) (by decide +kernel)) (fun _ _ _ _ _ => pg_name (i := 3) scNoI.nd rfl (.inl rfl)) (fun _ _ _ _ _ => pts_nil)
            (fun _ _ _ _ _ => pe_cmpR (Oo.op_inO (lm T ("__contains__", 6) (by decide)) (r_co T) (hr.mono (by decide)) pass0) (pv 3) (pv 2) rfl)) pa_nil)))
        (pss_one (ps_raise1 T.bw (hr.mono (by decide)) rfl (takes_of rfl rfl rfl rfl) (by rfl) pe_str)) pss_nil)
      (pss_cons (ps_fld (pv 0) (pv 1) rfl) (pss_one (ps_fld (pv 0) (pv 2) rfl))))), ?_⟩
    obtain ⟨_, clN, _⟩ := T.gk ("Note", 39) (by decide)
    refine isL_read (i := 1) T rfl hg (isL_read (i := 2) T rfl hl ?_)
    show tAny (cxOf (L2.CX P w) P w K mg base scNoI_N "Note.__init__" (defScope iSt) (ma K (gNo K) "__init__") cdv A outer s H E) 3 (tVar 1) (tVar 2) [some (.ref p), some (.ref g), some (.ref l), none] H _
    refine any_read (X := cxOf (L2.CX P w) P w K mg base scNoI_N "Note.__init__" (defScope iSt) (ma K (gNo K) "__init__") cdv A outer s H E) (ti := tVar 1) (tj := tVar 2) (i := 3) (σ := [some (.ref p), some (.ref g), some (.ref l), none]) T hg hl (fun R r => ⟨_, rfl, r⟩) (fun z H' R _ r => ⟨_, rfl, r⟩) (fun z => rfl) (fun _ => rfl) fun H1 s1 => ?_
    refine ⟨_, rfl, if_negB ?_ ?_⟩
    · unfold apartB at ap
      exact Bool.not_eq_true' _ |>.mp ap
    refine ⟨_, rfl, _, rfl, p, gNo K, dx, _, rfl, s1 _ _ hp, clN, T.noGa, by show 0 < 1000; decide, ?_⟩
    refine ⟨_, rfl, _, rfl, p, gNo K, dx, _, rfl, upd_same, clN, T.noLs, by show 1 < 1000; decide, ?_⟩
    refine k _ (fun c o hc e => ?_) (by rw [upd_same]; rfl)
    rw [upd_ne hc, upd_ne hc]
    exact s1 _ _ e
end
end K7
set_option Elab.async false
set_option linter.all false
set_option maxRecDepth 100000
set_option maxHeartbeats 2000000
/-! bool(a tuple). -/
namespace GBT
open PySem PyProof.Rows
open PySem.Sem (wp)
theorem meets_bool_tup (l : Addr) (items : Array Value) (hfit : (items.size : Int) < 2 ^ 63) :
    Meets (Builtin.«bool.__new__» ⟨[.type "bool", .ref l], []⟩) (fun _ R s => IsTup s.heap l items ∧ R (.ok (.ret (.bool (!items.isEmpty)))) { s with toks := s.toks + 1 + 1 }) :=
  Meets.of_wp fun prog w A R s hs => by
    obtain ⟨hl, hs⟩ := hs
    obtain ⟨hp, g, d, tk, os⟩ := s
    have f1 := F.conv_sub_bool
    repeat (any_goals (first | assumption | (with_reducible refine truthy_tuple hl hfit ?_) | wp_step))
    all_goals first | exact ⟨_, rfl, hs⟩ | exact hs | skip
theorem call_bool_tup {prog : Program} {w : World} {A : Around} {E : Value → Shared → Prop} {s : Shared} {l : Addr} {items : Array Value} {Q : Value → Shared → Prop} (hfit : (items.size : Int) < 2 ^ 63) (hl : IsTup s.heap l items)
    (h : Q (.bool (!items.isEmpty)) { s with toks := s.toks + 1 + 1 }) : wpAny (model prog w) A (call (.type "bool") [.ref l]) Q E s :=
  call_bool_1 (meets_bool_tup l items hfit) ⟨hl, rfl, h⟩
end GBT
namespace Oo
open PySem PySem.Spec PyProof.Rows L2
variable {X : Cx}
/-- bool(a tuple) -/
theorem call_boolT : CallR X (.type "bool") (fun xs H Q => ∃ (a : Addr) (zs : List V), xs = [.ref a] ∧ SqT X.K H a zs ∧ Q (.bl (!zs.isEmpty)) H) := by
  intro pins s σ H xs us Q I r h
  obtain ⟨a, zs, rfl, hq, q⟩ := h
  obtain rfl := Vals.ref1 r
  obtain ⟨its, rv, pl, hz⟩ := I.tuple hq
  have hl := line63
  have hlen := rv.length
  refine GBT.call_bool_tup (by simp only [List.size_toArray]; omega) pl ?_
  exact ⟨.bl (!zs.isEmpty), H, I.tok _, by rw [isEmpty_of rv]; rfl, q⟩
end Oo
set_option Elab.async false
set_option linter.all false
set_option maxRecDepth 100000
set_option maxHeartbeats 1000000
/-! Note: made; __neg__, __eq__, __bool__. -/
namespace K7
open PySem PySem.Spec PyProof.Rows L2 RV EV He EF EI
/-- from what a caller shows to what __init__ asks -/
theorem note_new {K : PySem.W.Frag} {g l : Addr} {ga lo : List Str} {H : Hp} {Q : VK} {E : XK} (hg : IsLot K H g ga) (hl : IsLot K H l lo) (ap : apartB ga lo = true) (k : ∀ x H', Same H H' → IsNote K H' x ga lo → Q (.ref x) H') :
    ∀ x dx, H x = none → H dx = none → dx ≠ x → spNoI K (.ref x :: ([.ref g, .ref l] ++ [])) (upd (upd H dx (.own x)) x (.ins (gNo K) dx [])) (fun v H2 => v = .non ∧ Q (.ref x) H2) E := by
  intro x dx hx hdx ne
  have s1 : Same H (upd (upd H dx (.own x)) x (.ins (gNo K) dx [])) := fun c u e => by
    rw [upd_ne (ne_of_none e hx), upd_ne (ne_of_none e hdx)]
    exact e
  have ng : g ≠ x := let ⟨_, _, G⟩ := hg; ne_of_none G.ob hx
  have nl : l ≠ x := let ⟨_, _, L⟩ := hl; ne_of_none L.ob hx
  refine ⟨x, dx, g, l, ga, lo, rfl, upd_same, ng, nl, hg.same s1, hl.same s1, ap, fun H' s' e => ⟨rfl, k x H' (fun c u q => s' c u (ne_of_none q hx) (s1 c u q)) ⟨dx, g, l, e, ?_, ?_⟩⟩⟩
  · exact hg.same fun c u q => s' c u (ne_of_none q hx) (s1 c u q)
  · exact hl.same fun c u q => s' c u (ne_of_none q hx) (s1 c u q)
section
variable {P : Program} {w : World} {K : PySem.W.Frag} {mg : Str → Option Value} {base : Heap}
theorem mk_note (T : KF P w K mg base) : ∃ fd, FnOk P w K mg base (L2.CX P w) 4 (ma K (gNo K) "__init__") fd ["self", "gained", "lost"] (spNoI K) ∧ L2.Binds K fd ["self", "gained", "lost"] [] ∧ Mk K (gNo K) (ma K (gNo K) "__init__") ∧ mg "Note" = some (.ref (gNo K)) := by
  obtain ⟨fd, F⟩ := T.ik ("Note", 39) (by decide)
  obtain ⟨g, _, m⟩ := T.gk ("Note", 39) (by decide)
  exact ⟨fd, ok_noI T F, FunD.bindsN F fun _ _ _ _ _ _ us hl => match us, hl with | [_, _, _], _ => rfl, m, g⟩
theorem nm (T : KF P w K mg base) (q : Str × Nat) (h : q ∈ noteN) : Meth K (gNo K) q.1 (ma K (gNo K) q.1) := (T.note q h).1
theorem cls_note (T : KF P w K mg base) : Cls K (gNo K) := (T.gk ("Note", 39) (by decide)).2.1
def spNeg (K : PySem.W.Frag) : Sp := fun vs H Q _ => ∃ p ga lo, vs = [.ref p] ∧ IsNote K H p ga lo ∧ apartB lo ga = true ∧ ∀ x H', Same H H' → IsNote K H' x lo ga → Q (.ref x) H'
theorem scNg : FnScope ["self"] ["self"] (defScope (nSt 5)) := ⟨rfl, rfl, rfl, by decide +kernel, rfl, by decide +kernel, by decide +kernel⟩
theorem ok_neg (T : KF P w K mg base) {fd : FuncData} (F : FunD K "__neg__" "Note.__neg__" (defArgs (nSt 5)) (defBody (nSt 5)) (defScope (nSt 5)) [] [] (ma K (gNo K) "__neg__") fd) : FnOk P w K mg base (L2.CX P w) 6 (ma K (gNo K) "__neg__") fd ["self"] (spNeg K) := by
  obtain ⟨fn, Gn, bn, mn, gn⟩ := mk_note (w := w) T
  refine F.ok scNg (fun vs H Q E h => ?_) (fun cdv A outer s H vs Q E hr h => ?_)
  · obtain ⟨p, ga, lo, rfl, _⟩ := h
    rfl
  · obtain ⟨p, ga, lo, rfl, ⟨dx, g, l, N⟩, ap, k⟩ := h
    refine ⟨_, pss_one (ps_ret (pe_make (E := E) mn Gn hr (by rfl) gn bn .nil (passes_call (takes_of rfl rfl rfl rfl) fun _ _ _ _ h => h) (pa_cons (pe_fld (pv 0) rfl) (pa_cons (pe_fld (pv 0) rfl) pa_nil)))), ?_⟩
    refine ⟨_, rfl, p, gNo K, dx, _, _, rfl, N.ob, cls_note T, T.noLs, rfl, _, rfl, p, gNo K, dx, _, _, rfl, N.ob, cls_note T, T.noGa, rfl, ?_⟩
    exact note_new N.l N.g ap k
def spEqN (K : PySem.W.Frag) : Sp := fun vs H Q _ => ∃ p ga lo v, vs = [.ref p, v] ∧ IsNote K H p ga lo ∧ ((∃ q gb lb, v = .ref q ∧ IsNote K H q gb lb ∧ Q (.bl (decide (ga = gb) && decide (lo = lb))) H) ∨ (∃ t, TyX K H v t ∧ PySem.W.kitOne K t (.ref (gNo K)) = some false ∧ Q (.bl false) H))
theorem scEqN : FnScope ["self", "other"] ["self", "other"] (defScope (nSt 3)) := ⟨rfl, rfl, rfl, by decide +kernel, rfl, by decide +kernel, by decide +kernel⟩
theorem r_eq (T : KF P w K mg base) : FnR P w K mg base CX0 1 (lAd K "__eq__") (spEqL K) := by
  obtain ⟨_, fd, F⟩ := T.lot ("__eq__", 5) (by decide)
  exact Oo.FnOk.r0 (ok_eqL T F) (FunD.bindsN F fun _ _ _ _ _ _ us hl => match us, hl with | [_, _], _ => rfl)
theorem ty_note (T : KF P w K mg base) {H : Hp} {a dx : Addr} {fs : List (Str × V)} (e : H a = some (.ins (gNo K) dx fs)) : TyX K H (.ref a) (.ref (gNo K)) := by
  have z := (rB T).1
  unfold noteB at z
  obtain ⟨z1, _⟩ := ba z
  obtain ⟨o1, o2⟩ := ba T.ob
  obtain ⟨h1, h⟩ := ba z1
  obtain ⟨h2, _⟩ := ba h
  exact .base (.ins e (cls_note T) (eqO_ok h1) (eqO_ok o1) (of_decide_eq_true o2) (of_decide_eq_true h2))
abbrev tEqL (K : PySem.W.Frag) (f : Str) : TE := tOp (Oo.rOwn2 K (gO K) (fun t => PySem.W.notFirst K (gO K) t = true) (spEqL K) E0) (tFld K (tVar 0) f) (tFld K (tVar 1) f)
theorem ok_noEq (T : KF P w K mg base) {fd : FuncData} (F : FunD K "__eq__" "Note.__eq__" (defArgs (nSt 3)) (defBody (nSt 3)) (defScope (nSt 3)) [] [] (ma K (gNo K) "__eq__") fd) : FnOk P w K mg base CX0 2 (ma K (gNo K) "__eq__") fd ["self", "other"] (spEqN K) := by
  refine F.ok scEqN (fun vs H Q E h => ?_) (fun cdv A outer s H vs Q E hr h => ?_)
  · obtain ⟨p, ga, lo, v, rfl, _⟩ := h
    rfl
  · obtain ⟨p, ga, lo, v, rfl, ⟨dx, g, l, N⟩, k⟩ := h
    refine ⟨_, PSs.nox (pss_one (ps_ret (pe_and (pe_callB call_isi (by rfl) (T.fr "isinstance" (by decide)) PyProof.Rows.boot_isinstance (pa_cons (pv 1) (pa_cons (pe_glob (v := .ref (gNo K)) (by rfl) (T.gk ("Note", 39) (by decide)).1 rfl) pa_nil)))
      (pe_and (pe_cmpR (Oo.op_cmpO (E := E0) (op := .Eq) (fun _ _ => rfl) (lm T ("__eq__", 5) (by decide)) (r_eq T) hr pass0) (pe_fld (pv 0) rfl) (pe_fld (pv 1) rfl) (nomark _))
        (pe_one (pe_cmpR (Oo.op_cmpO (E := E0) (op := .Eq) (fun _ _ => rfl) (lm T ("__eq__", 5) (by decide)) (r_eq T) hr pass0) (pe_fld (pv 0) rfl) (pe_fld (pv 1) rfl) (nomark _))))))), ?_⟩
    show tRet (tAndV (tCB (rIsi K) (tCons (tVar 1) (tCons (tC (V.ref (gNo K))) tNil))) (tAndV (tEqL K "gained") (tEqL K "lost"))) { nx := fun _ H' => Q .non H', rt := Q } [some (.ref p), some v] H
    rcases k with ⟨q, gb, lb, rfl, ⟨dy, g2, l2, M⟩, k⟩ | ⟨t, ty, kt, k⟩
    · obtain ⟨dg, tg, G⟩ := N.g
      obtain ⟨dl, tl, L⟩ := N.l
      obtain ⟨dg2, tg2, G2⟩ := M.g
      obtain ⟨dl2, tl2, L2⟩ := M.l
      refine ⟨_, rfl, .ref q, .ref (gNo K), _, _, true, rfl, .own _, ty_note T M.ob, (kits T).nn, true, rfl, if_posB rfl ?_⟩
      refine ⟨_, rfl, p, gNo K, dx, _, _, rfl, N.ob, cls_note T, T.noGa, rfl, _, rfl, q, gNo K, dy, _, _, rfl, M.ob, cls_note T, T.noGa, rfl, ?_⟩
      refine ⟨g, dg, _, _, rfl, G.ob, ty_lot T G2.ob, first_lot, g, ga, .ref g2, rfl, N.g, .inl ⟨g2, gb, rfl, M.g, decide (ga = gb), rfl, ?_⟩⟩
      by_cases e : ga = gb
      · rw [decide_eq_true e, Bool.true_and] at k
        refine if_posB (decide_eq_true e) ?_
        refine ⟨_, rfl, p, gNo K, dx, _, _, rfl, N.ob, cls_note T, T.noLs, rfl, _, rfl, q, gNo K, dy, _, _, rfl, M.ob, cls_note T, T.noLs, rfl, ?_⟩
        exact ⟨l, dl, _, _, rfl, L.ob, ty_lot T L2.ob, first_lot, l, lo, .ref l2, rfl, N.l, .inl ⟨l2, lb, rfl, M.l, k⟩⟩
      · rw [decide_eq_false e, Bool.false_and] at k
        exact if_negB (decide_eq_false e) k
    · exact ⟨_, rfl, v, .ref (gNo K), _, _, false, rfl, .own _, ty, kt, false, rfl, if_negB rfl k⟩
/-! __bool__ -/
def spBoN (K : PySem.W.Frag) : Sp := fun vs H Q _ => ∃ p ga lo, vs = [.ref p] ∧ IsNote K H p ga lo ∧ Q (.bl (!(ga ++ lo).isEmpty)) H
theorem scBoN : FnScope ["self"] ["self"] (defScope (nSt 4)) := ⟨rfl, rfl, rfl, by decide +kernel, rfl, by decide +kernel, by decide +kernel⟩
theorem ok_noBo (T : KF P w K mg base) {fd : FuncData} (F : FunD K "__bool__" "Note.__bool__" (defArgs (nSt 4)) (defBody (nSt 4)) (defScope (nSt 4)) [] [] (ma K (gNo K) "__bool__") fd) : FnOk P w K mg base CX0 1 (ma K (gNo K) "__bool__") fd ["self"] (spBoN K) := by
  refine F.ok scBoN (fun vs H Q E h => ?_) (fun cdv A outer s H vs Q E hr h => ?_)
  · obtain ⟨p, ga, lo, rfl, _⟩ := h
    rfl
  · obtain ⟨p, ga, lo, rfl, ⟨dx, g, l, N⟩, k⟩ := h
    obtain ⟨dg, tg, G⟩ := N.g
    obtain ⟨dl, tl, L⟩ := N.l
    refine ⟨_, PSs.nox (pss_one (ps_ret (pe_callTy Oo.call_boolT (by rfl) (T.fr "bool" (by decide)) boot_T (pa_cons (pe_orT (pe_fld (pe_fld (pv 0) rfl) rfl) (pe_one (pe_fld (pe_fld (pv 0) rfl) rfl))) pa_nil)))), ?_⟩
    refine ⟨_, rfl, p, gNo K, dx, _, _, rfl, N.ob, cls_note T, T.noGa, rfl, g, gO K, dg, _, _, rfl, G.ob, T.clo, T.noF, rfl, !(ga.map V.str).isEmpty, .inr (.inl ⟨_, SqT.of G.ps, rfl⟩), ?_⟩
    cases ga with
    | nil =>
      refine if_negB rfl ⟨_, rfl, p, gNo K, dx, _, _, rfl, N.ob, cls_note T, T.noLs, rfl, l, gO K, dl, _, _, rfl, L.ob, T.clo, T.noF, rfl, tl, _, rfl, SqT.of L.ps, ?_⟩
      have e : (!(lo.map V.str).isEmpty) = !(([] : List Str) ++ lo).isEmpty := by cases lo <;> rfl
      rw [e]
      exact k
    | cons x r => exact if_posB rfl ⟨tg, _, rfl, SqT.of G.ps, k⟩
end
end K7
set_option Elab.async false
set_option linter.all false
set_option maxRecDepth 100000
set_option maxHeartbeats 1000000
/-! is_told, note_of. -/
namespace K7
open PySem PySem.Spec PyProof.Rows L2 RV EV He EF EI
abbrev sTold : Stmt := top 35
abbrev sNof : Stmt := top 36
structure RO (K : PySem.W.Frag) (H : Hp) (p dx n l : Addr) (ns : List Str) : Prop where
  ob : H p = some (.ins (gRe K) dx [("number", .ref n), ("lot", .ref l)])
  n : ∃ dn fn, H n = some (.ins (gNu K) dn fn)
  l : IsLot K H l ns
abbrev IsRel (K : PySem.W.Frag) (H : Hp) (p : Addr) (ns : List Str) : Prop := ∃ dx n l, RO K H p dx n l ns
theorem RO.same {K : PySem.W.Frag} {H H' : Hp} {p dx n l : Addr} {ns : List Str} (o : RO K H p dx n l ns) (s : Same H H') : RO K H' p dx n l ns := ⟨s _ _ o.ob, let ⟨dn, fn, e⟩ := o.n; ⟨dn, fn, s _ _ e⟩, o.l.same s⟩
theorem IsRel.same {K : PySem.W.Frag} {H H' : Hp} {p : Addr} {ns : List Str} (o : IsRel K H p ns) (s : Same H H') : IsRel K H' p ns := let ⟨dx, n, l, R⟩ := o; ⟨dx, n, l, R.same s⟩
theorem mem_sift {a : Str} {ns ms : List Str} : a ∈ sift ns ms false ↔ a ∈ ns ∧ a ∉ ms := by
  unfold sift
  rw [List.mem_filter]
  by_cases h : a ∈ ms <;> simp [h]
theorem apart_iff {xs ys : List Str} : apartB xs ys = true ↔ ∀ x ∈ xs, x ∉ ys := by
  unfold apartB
  rw [Bool.not_eq_true', List.any_eq_false]
  constructor
  · intro h x hx hy
    exact h x hx (decide_eq_true hy)
  · intro h x hx
    rw [decide_eq_false (h x hx)]
    exact Bool.false_ne_true
theorem apart_sift {ns ms : List Str} : apartB (sift ns ms false) (sift ms ns false) = true := by
  rw [apart_iff]
  intro x hx hy
  exact (mem_sift.mp hx).2 (mem_sift.mp hy).1
section
variable {P : Program} {w : World} {K : PySem.W.Frag} {mg : Str → Option Value} {base : Heap} {f : Addr} {fd : FuncData}
def spTold (K : PySem.W.Frag) : Sp := fun vs H Q _ => ∃ p ns, vs = [.ref p] ∧ IsRel K H p ns ∧ Q (.bl true) H
theorem scTo : FnScope ["value"] ["value"] (defScope sTold) := ⟨rfl, rfl, rfl, by decide +kernel, rfl, by decide +kernel, by decide +kernel⟩
theorem ok_told (T : KF P w K mg base) (F : FnP K "is_told" sTold f fd) : FnOk P w K mg base CX0 1 f fd ["value"] (spTold K) := by
  obtain ⟨gR, clR, _⟩ := T.gk ("Release", 33) (by decide)
  obtain ⟨gN, clN, _⟩ := T.gk ("Number", 32) (by decide)
  refine F.ok scTo (fun vs H Q E h => ?_) (fun cdv A outer s H vs Q E hr h => ?_)
  · obtain ⟨p, ns, rfl, _⟩ := h
    rfl
  · obtain ⟨p, ns, rfl, ⟨dx, n, l, R⟩, k⟩ := h
    obtain ⟨dn, fn, hn⟩ := R.n
    obtain ⟨dl, tl, L⟩ := R.l
    refine ⟨_, PSs.nox (pss_one (ps_ret (pe_and (pe_callB call_isi (by rfl) (T.fr "isinstance" (by decide)) PyProof.Rows.boot_isinstance (pa_cons (pv 0) (pa_cons (pe_glob (v := .ref (gRe K)) (by rfl) gR rfl) pa_nil)))
      (pe_and (pe_callB call_isi (by rfl) (T.fr "isinstance" (by decide)) PyProof.Rows.boot_isinstance (pa_cons (pe_fld (pv 0) rfl) (pa_cons (pe_glob (v := .ref (gNu K)) (by rfl) gN rfl) pa_nil)))
        (pe_one (pe_callB call_isi (by rfl) (T.fr "isinstance" (by decide)) PyProof.Rows.boot_isinstance (pa_cons (pe_fld (pv 0) rfl) (pa_cons (pe_glob (v := .ref (gO K)) (by rfl) T.go rfl) pa_nil)))))))), ?_⟩
    have kt := kits T
    refine ⟨_, rfl, .ref p, .ref (gRe K), _, _, true, rfl, .own _, ty_ins T clR (rB T).2.2.2 R.ob, kt.rr, true, rfl, if_posB rfl ?_⟩
    refine ⟨_, rfl, p, gRe K, dx, _, _, rfl, R.ob, clR, T.noNu, rfl, .ref n, .ref (gNu K), _, _, true, rfl, .own _, ty_ins T clN (rB T).2.2.1 hn, kt.uu, true, rfl, if_posB rfl ?_⟩
    exact ⟨_, rfl, p, gRe K, dx, _, _, rfl, R.ob, clR, T.noLo, rfl, .ref l, .ref (gO K), _, _, true, rfl, .own _, ty_lot T L.ob, kit_lot T, k⟩
theorem c_told (T : KF P w K mg base) : Callee P w K mg base CX0 1 "is_told" ["value"] (spTold K) := by
  obtain ⟨fd, F, g⟩ := T.tops ("is_told", 35) (by decide)
  exact ⟨fd, ok_told T F, FunD.bindsN F fun _ _ _ _ _ _ us hl => match us, hl with | [_], _ => rfl, F.kp, g⟩
def spNof (K : PySem.W.Frag) : Sp := fun vs H Q _ => ∃ a b na nb, vs = [.ref a, .ref b] ∧ IsRel K H a na ∧ IsRel K H b nb ∧ ∀ x H', Same H H' → IsNote K H' x (sift nb na false) (sift na nb false) → Q (.ref x) H'
theorem scNof : FnScope ["release", "other"] ["release", "other"] (defScope sNof) := ⟨rfl, rfl, rfl, by decide +kernel, rfl, by decide +kernel, by decide +kernel⟩
theorem ok_nof (T : KF P w K mg base) (F : FnP K "note_of" sNof f fd) : FnOk P w K mg base (L2.CX P w) 9 f fd ["release", "other"] (spNof K) := by
  obtain ⟨ft, Gt, bt, kt, gt⟩ := c_told (w := w) T
  obtain ⟨fn, Gn, bn, mn, gn⟩ := mk_note (w := w) T
  obtain ⟨_, fs, Fs⟩ := T.lot ("__sub__", 12) (by decide)
  have bs : L2.Binds K fs ["self", "other"] [] := FunD.bindsN Fs fun _ _ _ _ _ _ us hl => match us, hl with | [_, _], _ => rfl
  have Gs := Oo.FnOk.r0 (ok_su T Fs) bs
  obtain ⟨gR, clR, _⟩ := T.gk ("Release", 33) (by decide)
  refine F.ok scNof (fun vs H Q E h => ?_) (fun cdv A outer s H vs Q E hr h => ?_)
  · obtain ⟨a, b, na, nb, rfl, _⟩ := h
    rfl
  · obtain ⟨a, b, na, nb, rfl, RA, RB, k⟩ := h
    have hp : Passes (L2.CX P w) (cxOf (L2.CX P w) P w K mg base ["release", "other"] "note_of" (defScope sNof) f cdv A outer s H E) E := passes_call (takes_of rfl rfl rfl rfl) fun _ _ _ _ h => h
    refine ⟨_, pss_cons (ps_if (pt_not (pt_val (pe_call (E := E0) Gt (hr.mono (by decide)) (by rfl) gt kt bt .nil pass0 (pa_cons (pv 0) pa_nil)))) (pss_one ps_never) pss_nil)
      (pss_cons (ps_if (pt_not (pt_val (pe_call (E := E0) Gt (hr.mono (by decide)) (by rfl) gt kt bt .nil pass0 (pa_cons (pv 1) pa_nil)))) (pss_one ps_never) pss_nil)
      (pss_one (ps_ret (pe_make (E := E) mn Gn (hr.mono (by decide)) (by rfl) gn bn .nil hp
        (pa_cons (pe_op (Oo.op_bin (E := E) (opc_su T) (by decide) Gs hr hp) (pe_fld (pv 1) rfl) (pe_fld (pv 0) rfl))
          (pa_cons (pe_op (Oo.op_bin (E := E) (opc_su T) (by decide) Gs hr hp) (pe_fld (pv 0) rfl) (pe_fld (pv 1) rfl)) pa_nil)))))), ?_⟩
    obtain ⟨da, n1, l1, A1⟩ := RA
    obtain ⟨db, n2, l2, B1⟩ := RB
    refine ⟨_, rfl, a, na, rfl, ⟨da, n1, l1, A1⟩, true, rfl, if_negB rfl ⟨_, rfl, b, nb, rfl, ⟨db, n2, l2, B1⟩, true, rfl, if_negB rfl ?_⟩⟩
    obtain ⟨dl1, tl1, L1⟩ := A1.l
    obtain ⟨dl2, tl2, L2⟩ := B1.l
    refine ⟨_, rfl, b, gRe K, db, _, _, rfl, B1.ob, clR, T.noLo, rfl, _, rfl, a, gRe K, da, _, _, rfl, A1.ob, clR, T.noLo, rfl, ?_⟩
    refine ⟨l2, dl2, _, _, rfl, L2.ob, ty_lot T L1.ob, .inl rfl, l2, nb, .ref l1, rfl, ⟨dl2, tl2, L2⟩, .inl ⟨l1, na, rfl, ⟨dl1, tl1, L1⟩, fun H1 s1 H2 g dg tg s2 G => ?_⟩⟩
    have s12 := s1.trans s2
    have A2 := A1.same s12
    have B2 := B1.same s12
    have M1 := L1.same s12
    have M2 := L2.same s12
    refine ⟨_, rfl, a, gRe K, da, _, _, rfl, A2.ob, clR, T.noLo, rfl, _, rfl, b, gRe K, db, _, _, rfl, B2.ob, clR, T.noLo, rfl, ?_⟩
    refine ⟨l1, dl1, _, _, rfl, M1.ob, ty_lot T M2.ob, .inl rfl, l1, na, .ref l2, rfl, ⟨dl1, tl1, M1⟩, .inl ⟨l2, nb, rfl, ⟨dl2, tl2, M2⟩, fun H3 s3 H4 l dl tl s4 L => ?_⟩⟩
    have s34 := s3.trans s4
    exact note_new ⟨dg, tg, G.same s34⟩ ⟨dl, tl, L⟩ apart_sift fun x H5 s5 N => k x H5 ((s12.trans s34).trans s5) N
theorem c_nof (T : KF P w K mg base) : Callee P w K mg base (L2.CX P w) 9 "note_of" ["release", "other"] (spNof K) := by
  obtain ⟨fd, F, g⟩ := T.tops ("note_of", 36) (by decide)
  exact ⟨fd, ok_nof T F, FunD.bindsN F fun _ _ _ _ _ _ us hl => match us, hl with | [_, _], _ => rfl, F.kp, g⟩
end
end K7
set_option Elab.async false
set_option linter.all false
set_option maxRecDepth 100000
set_option maxHeartbeats 1000000
/-! C(e, ..) of a class whose __init__ has a star parameter; a walk over one of two kinds of things. -/
namespace Oo
open PySem PySem.Spec PyProof.Rows L2 PySem.W
section
variable {X : Cx} {CX : CXT} {k : Nat} {C f : Addr} {sp : Sp} {E : XK} {x : Str} {e : Expr} {es : List Expr} {t : TA} {p1 pos : Pos}
def tNewP (C : Addr) (sp : Sp) (E : XK) (t : TA) : TE := fun σ H Q => t σ H fun vs H1 => wNew C sp E vs H1 Q
theorem pe_newP (M : Mk X.K C f) (F : FnR X.prog X.w X.K X.mg X.base CX k f sp) (hr : Room (k + 1) X.A) (hg : Gl X x) (hm : X.mg x = some (.ref C)) (hx : Passes CX X E) (ha : PA X (e :: es) t) (hd : (x == ("__debug__" : Str)) = false := by decide)
    (he : starEach (e :: es) X.env = (false, eval e X.env) :: starEach es X.env := by rfl) (hpl : (backTo pos (starEach es X.env)).any (·.1) = false := by rfl) :
    PE X (.Call (.Name x p1) (e :: es) [] pos) (tNewP C sp E t) := by
  refine ⟨fun pins s σ H Q I h => ?_⟩
  refine wpAny_Call_Name_kw (ld_glob I hg hm ?_ hd)
  refine PySem.W.callWith_K (h₀ := X.base) I.ok.mod.kin M.kp (thn (ha.run pos pins s σ H _ I h) fun us s1 ⟨vs, H1, I1, r, q⟩ => ⟨I1.kIn, ?_⟩) he hpl
  exact StX.run_makeR M F hr hx I1 r q
theorem pi_or {tg e : Expr} {w1 w2 : TI} (h1 : PI X tg e w1) (h2 : PI X tg e w2) : PI X tg e (fun σ H R => w1 σ H R ∨ w2 σ H R) :=
  ⟨fun pins s σ H R I h => h.elim (fun h => h1.run pins s σ H R I h) fun h => h2.run pins s σ H R I h⟩
end
end Oo
set_option Elab.async false
set_option linter.all false
set_option maxRecDepth 100000
set_option maxHeartbeats 1000000
/-! fixes_without; _law_lot. -/
namespace K7
open PySem PySem.Spec PyProof.Rows L2 RV EV He EF EI
abbrev sWo : Stmt := top 37
abbrev sLlot : Stmt := top 45
section
variable {P : Program} {w : World} {K : PySem.W.Frag} {mg : Str → Option Value} {base : Heap} {f : Addr} {fd : FuncData}
abbrev scWo_N : List Str := ["fixes", "out", "fix"]
theorem scWo : FnScope scWo_N ["fixes", "out"] (defScope sWo) := ⟨rfl, rfl, rfl, by decide +kernel, rfl, by decide +kernel, by decide +kernel⟩
def without (xs ys : List Str) : List Str := xs.filter fun x => !decide (x ∈ ys)
def spWo (K : PySem.W.Frag) : Sp := fun vs H Q E => ∃ a b xs ys, vs = [.ref a, .ref b] ∧ H a = some (.lst (xs.map V.str)) ∧ H b = some (.lst (ys.map V.str)) ∧ xs.length ≤ 500 ∧ (∀ x ∈ xs, isFixB x = true) ∧ ∀ H', Same H H' → LotR K E Q (without xs ys) H'
abbrev ttWo (K : PySem.W.Frag) : TT := tTest (tOp (rIn K true) (tVar 2) (tVar 1))
theorem ok_wo (T : KF P w K mg base) (F : FnP K "fixes_without" sWo f fd) : FnOk P w K mg base (L2.CX P w) 7 f fd ["fixes", "out"] (spWo K) := by
  obtain ⟨fo, Fo⟩ := T.fo
  have bo : L2.Binds K fo ["fixes"] [] := FunD.bindsN Fo fun _ _ _ _ _ _ us hl => match us, hl with | [_], _ => rfl
  have Go := Oo.FnOk.r0 (ok_of T Fo) bo
  refine F.ok scWo (fun vs H Q E h => ?_) (fun cdv A outer s H vs Q E hr h => ?_)
  · obtain ⟨a, b, xs, ys, rfl, _⟩ := h
    rfl
  · obtain ⟨a, b, xs, ys, rfl, ha, hb, hz, hf, k⟩ := h
    refine ⟨_, pss_one (ps_ret (Oo.pe_smeth (E := E) (pe_glob (v := .ref (gO K)) (by rfl) T.go rfl) (cread T) (smet T) Go hr (passes_call (takes_of rfl rfl rfl rfl) fun _ _ _ _ h => h)
      (pa_cons (pe_lc (own := [("fix", 2)]) (g := gName 2) (tt := ttWo K) (te := tVar 2) rfl scWo.nd (pi_list (pv 0)) (blkOk_by (N := scWo_N) (sc := defScope sWo) (by decide +kernel)) (fun _ _ _ _ _ => pg_name (i := 2) scWo.nd rfl (.inl rfl))
        (fun _ _ _ _ _ => pts_one (pt_cmpR op_notIn_seq (pv 2) (pv 1) rfl)) (fun _ _ _ _ _ => pv 2)) pa_nil))), ?_⟩
    refine ⟨rfl, _, rfl, a, rfl, ⟨_, SqL.of ha⟩, fun D nD => ?_⟩
    refine lcl (K := K) (σ := [some (.ref a), some (.ref b), none]) (i := 2) (tt := ttWo K) (te := tVar 2) (p := fun x => !decide (x ∈ ys)) (enc := V.str) (out := V.str) (ns := xs) (fun H' s => SqL.of (s _ _ ha)) ⟨nD, by omega, fun _ => rfl, fun z _ H' F s e => ?_, fun z _ _ H' F s e => ⟨_, rfl, e _ fun _ _ e => e⟩, fun H3 s3 hD => ?_⟩
    · refine ⟨_, rfl, _, rfl, b, _, rfl, .inl (SqL.of (s _ _ hb)), rfl, flat_strs ys, _, rfl, ?_⟩
      show F (!inV (.str z) (ys.map V.str)) H'
      rw [inV_str]
      exact e _ fun _ _ e => e
    · refine ⟨_, rfl, .inl ⟨_, ⟨D, rfl, .inl hD⟩, fun H4 s4 => .good ?_ (fun x hx => hf x (List.mem_filter.mp hx).1) fun H5 s5 => k H5 (s3.trans (s4.trans s5))⟩⟩
      have := List.length_filter_le (fun x => !decide (x ∈ ys)) xs
      omega
end
end K7
set_option Elab.async false
set_option linter.all false
set_option maxRecDepth 100000
set_option maxHeartbeats 1000000
/-! _law_lot. -/
namespace K7
open PySem PySem.Spec PyProof.Rows L2 RV EV He EF EI
theorem passL {X : Cx} : Passes (L2.CX X.prog X.w) X E0 := fun _ _ _ _ _ _ _ h => by
  obtain ⟨_, _, _, _, _, _, _, _, _, _, _, _, z⟩ := h
  exact z.elim
abbrev one (c : Nat) : Str := ⟨#[c]⟩
section
variable {P : Program} {w : World} {K : PySem.W.Frag} {mg : Str → Option Value} {base : Heap} {f : Addr} {fd : FuncData}
abbrev scLl_N : List Str := ["_law_fixes", "_law_found", "_law_fix"]
theorem scLl : FnScope scLl_N ["_law_fixes"] (defScope sLlot) := ⟨rfl, rfl, rfl, by decide +kernel, rfl, by decide +kernel, by decide +kernel⟩
def spLlot (K : PySem.W.Frag) : Sp := fun vs H Q _ => ∃ v xs, vs = [v] ∧ ((∃ a, v = .ref a ∧ H a = some (.lst (xs.map V.str))) ∨ (∃ z, v = .str z ∧ xs = z.cps.toList.map one)) ∧ xs.length ≤ 8 ∧ (∀ x ∈ xs, isFixB x = true) ∧ NewL K Q (lined xs) H
abbrev tLlB (K : PySem.W.Frag) : TS := tAsg (tOp (Oo.rOwn2 K (gO K) (Oo.okBin (gO K)) (spBin K fun ns ms Q E H => ∀ H', Same H H' → LotR K E Q (ns ++ ms) H') E0) (tVar 1) (Oo.tNewP (gO K) (spStar (spLi K)) E0 (tCons (tVar 2) tNil))) (gName 1)
theorem ok_llot (T : KF P w K mg base) (F : FnP K "_law_lot" sLlot f fd) : FnOk P w K mg base CX0 9 f fd ["_law_fixes"] (spLlot K) := by
  obtain ⟨_, fr, Fr⟩ := T.lot ("__or__", 10) (by decide)
  have br : L2.Binds K fr ["self", "other"] [] := FunD.bindsN Fr fun _ _ _ _ _ _ us hl => match us, hl with | [_, _], _ => rfl
  have Gr := Oo.FnOk.r0 (ok_or T Fr) br
  refine F.ok scLl (fun vs H Q E h => ?_) (fun cdv A outer s H vs Q E hr h => ?_)
  · obtain ⟨v, xs, rfl, _⟩ := h
    rfl
  · obtain ⟨v, xs, rfl, hv, hz, hf, k⟩ := h
    refine ⟨_, PSs.nox (pss_cons (ps_set (i := 1) scLl.nd rfl (.inl rfl) (Oo.pe_new0 (E := E0) T.mko (ok_li T) (hr.mono (by decide)) (by rfl) T.go passL))
      (pss_cons (ps_for PassesOwn.never rfl (Oo.pi_or (pi_list (pv 0)) (pi_str (pv 0))) (pg_name (i := 2) scLl.nd rfl (.inl rfl))
        (pss_one (ps_set (i := 1) scLl.nd rfl (.inl rfl) (pe_op (Oo.op_bin (E := E0) (opc_or T) (by decide) Gr (hr.mono (by decide)) passL) (pv 1) (Oo.pe_newP (E := E0) T.mko (ok_li T) (hr.mono (by decide)) (by rfl) T.go passL (pa_cons (pv 2) pa_nil))))))
      (pss_one (ps_ret (pv 1))))), ?_⟩
    show tSeq (tAsg (fun _ H Q => Oo.wNew (gO K) (spStar (spLi K)) E0 [] H Q) (gName 1)) (tSeq (tFor (fun σ H R => iList K (tVar 0) σ H R ∨ iStr (tVar 0) σ H R) (gName 2) (tLlB K)) (tRet (tVar 1))) { nx := fun _ H' => Q .non H', rt := Q } [some v, none, none] H
    show Oo.wNew (gO K) (spStar (spLi K)) E0 [] H fun x H1 => gName 1 x [some v, none, none] H1 fun σ H' => tSeq (tFor (fun σ H R => iList K (tVar 0) σ H R ∨ iStr (tVar 0) σ H R) (gName 2) (tLlB K)) (tRet (tVar 1)) { nx := fun _ H' => Q .non H', rt := Q } σ H'
    refine new_of (K := K) (xs := []) (MkLot.good (ss := []) (by decide) (fun _ z => nomatch z) fun H1 s1 => ⟨fun _ H2 p0 dx0 tp0 s2 O0 => ?_, fun h => absurd h (by decide)⟩)
    have s12 := s1.trans s2
    have go : ∀ {J : It} {G : Hp → Prop} {Y : Nat → Hp → V → Hp → Prop}, Walk J xs.length G Y → (∀ H', Same H2 H' → G H') → (∀ i x H H', Y i H x H' → H' = H ∧ ∃ z, xs[i]? = some z ∧ x = .str z) →
        ∃ W : Nat → Nat → L2.St → Hp → Prop, (∃ m, W 0 m [some v, some (.ref p0), none] H2) ∧ ∀ i m σ H, W i m σ H → (J.stop i H ∧ tRet (tVar 1) { nx := fun _ H' => Q .non H', rt := Q } σ H) ∨ (J.go i H ∧ ∃ N : L2.St → Hp → Prop, (∀ σ' H', N σ' H' → ∃ m', m' < m ∧ W (i + 1) m' σ' H') ∧ ∀ x H', J.yld i H x H' → gName 2 x σ H' fun σ2 H2 =>
          tLlB K { nx := N, rt := Q, ct := N, bk := fun σ H => tRet (tVar 1) { nx := fun _ H' => Q .non H', rt := Q } σ H } σ2 H2) := by
      intro J G Y w hG hY
      refine for_it (D := { nx := fun σ H => tRet (tVar 1) { nx := fun _ H' => Q .non H', rt := Q } σ H, rt := Q }) w (fun i σ H' => Same H2 H' ∧ ∃ p o, σ = [some v, some (.ref p), o] ∧ IsLot K H' p (lined (xs.take i))) ⟨fun _ _ e => e, p0, none, rfl, dx0, tp0, O0⟩ (fun i σ H' _ q => hG H' q.1) ?_ ?_
      · rintro i x σ H3 H4 hi ⟨s3, p, o, rfl, dx, tp, O⟩ hy
        obtain ⟨rfl, z, hzz, rfl⟩ := hY i x H3 H4 hy
        obtain ⟨hl, hv2⟩ := List.getElem?_eq_some_iff.mp hzz
        have more : xs.take (i + 1) = xs.take i ++ [z] := by rw [← hv2]; exact List.take_succ_eq_append_getElem hl
        have fz : isFixB z = true := hf z (by rw [← hv2]; exact List.getElem_mem hl)
        refine ⟨_, rfl, _, rfl, ?_⟩
        show Oo.wNew (gO K) (spStar (spLi K)) E0 [.str z] H4 fun y H5 => Oo.rOwn2 K (gO K) (Oo.okBin (gO K)) (spBin K fun ns ms Q E H => ∀ H', Same H H' → LotR K E Q (ns ++ ms) H') E0 (.ref p) y H5 fun x H6 => Same H2 H6 ∧ ∃ p' o', [some v, some x, some (V.str z)] = [some v, some (.ref p'), o'] ∧ IsLot K H6 p' (lined (xs.take (i + 1)))
        refine new_of (K := K) (E := E0) (xs := [.str z]) (MkLot.good (ss := [z]) (by show 1 ≤ 1000; decide) (fun x hx => by rw [List.mem_singleton.mp hx]; exact fz) fun H5 s5 => ⟨fun _ H6 q dq tq s6 Oq => ?_, fun h => absurd h (by have := lined_len [z]; simp at this; omega)⟩)
        have s56 := s5.trans s6
        have O6 := O.same s56
        have e : lined (lined (xs.take i) ++ lined [z]) = lined (xs.take (i + 1)) := by
          rw [more]
          refine lined_eq fun a => ?_
          simp [mem_lined]
        have l8 : (lined (xs.take (i + 1))).length ≤ 8 := by
          have h1 := lined_len (xs.take (i + 1))
          rw [List.length_take] at h1
          omega
        refine ⟨p, dx, _, _, rfl, O6.ob, ty_lot T Oq.ob, .inl rfl, p, _, .ref q, rfl, ⟨dx, tp, O6⟩, .inl ⟨q, _, rfl, ⟨dq, tq, Oq⟩, fun H7 s7 => ⟨fun _ H8 r dr tr s8 Or => ?_, fun h => absurd h (by rw [e]; omega)⟩⟩⟩
        rw [e] at Or
        exact ⟨((s3.trans s56).trans s7).trans s8, r, _, rfl, dr, tr, Or⟩
      · rintro σ H3 ⟨s3, p, o, rfl, dx, tp, O⟩
        rw [List.take_of_length_le (Nat.le_refl _)] at O
        exact ⟨_, rfl, k H3 p dx tp (s12.trans s3) O⟩
    rcases hv with ⟨a, rfl, ha⟩ | ⟨z, rfl, ez⟩
    · refine .inl ⟨_, rfl, a, rfl, ⟨_, SqL.of (s12 _ _ ha)⟩, ?_⟩
      refine go (Y := YAt (xs.map V.str)) (by have w := walk_list (K := K) (a := a) (xs := xs.map V.str); rw [List.length_map] at w; exact w) (fun H' s' => SqL.of (s' _ _ (s12 _ _ ha))) fun i x H H' y => at_map (enc := V.str) i x H H' y
    · refine .inr ⟨_, rfl, z, rfl, ?_⟩
      refine go (by have w := walk_str (z := z); rw [show z.cps.size = xs.length by rw [ez, List.length_map, Array.length_toList]] at w; exact w) (fun _ _ => trivial) ?_
      rintro i x H H' ⟨rfl, c, hc, rfl⟩
      refine ⟨rfl, one c, ?_, rfl⟩
      rw [ez, List.getElem?_map, Array.getElem?_toList, hc]
      rfl
theorem c_llot (T : KF P w K mg base) : Callee P w K mg base CX0 9 "_law_lot" ["_law_fixes"] (spLlot K) := by
  obtain ⟨fd, F, g⟩ := T.tops ("_law_lot", 45) (by decide)
  exact ⟨fd, ok_llot T F, FunD.bindsN F fun _ _ _ _ _ _ us hl => match us, hl with | [_], _ => rfl, F.kp, g⟩
end
end K7
set_option Elab.async false
set_option linter.all false
set_option maxRecDepth 100000
set_option maxHeartbeats 1000000
/-! The pen. -/
namespace K7
open PySem PySem.Spec PyProof.Rows L2 RV EV He EF EI
section
variable {P : Program} {w : World} {K : PySem.W.Frag} {mg : Str → Option Value} {base : Heap} {f : Addr} {fd : FuncData}
theorem blt1 (T : KF P w K mg base) : Blt mg := ⟨T.fr _ (by decide), T.fr _ (by decide), T.fr _ (by decide), T.fr _ (by decide)⟩
theorem c_draw (T : KF P w K mg base) : Callee P w K mg base CX0 1 "_law_draw" ["_law_pen_here", "_law_many"] spDraw := by
  obtain ⟨fd, F, g⟩ := T.tops ("_law_draw", 42) (by decide)
  exact ⟨fd, ok_draw F (blt1 T), FunD.bindsN F fun _ _ _ _ _ _ us hl => match us, hl with | [_, _], _ => rfl, F.kp, g⟩
theorem Pen.new {H : Hp} {p a q : Addr} {cs : List Int} {b g : Int} {o : HO} (N : Pen H p a cs b g) (nq : H q = none) : Pen (upd H q o) p a cs b g :=
  ⟨by rw [upd_ne (ne_of_none N.pn nq)]; exact N.pn, by rw [upd_ne (ne_of_none N.ce nq)]; exact N.ce, N.b0, N.g0, N.ln⟩
theorem cut8 (ns : List Str) : cutV (ns.map V.str) none (some 8) = (ns.take 8).map V.str := by
  unfold cutV
  rw [HT.sIx_none, show (some (8 : Int)) = some ((8 : Nat) : Int) from rfl, HT.sIx_nat, List.drop_zero, Nat.sub_zero, ← List.map_take, List.length_map]
  rcases Nat.le_total 8 ns.length with h | h
  · rw [Nat.min_eq_left h]
  · rw [Nat.min_eq_right h, List.take_of_length_le (Nat.le_refl _), List.take_of_length_le h]
end
end K7
set_option Elab.async false
set_option linter.all false
set_option maxRecDepth 100000
set_option maxHeartbeats 1000000
/-! try: .. except X as e: v = e, and v asked behind the try: the caught error is tracked from the end of the suite on. -/
namespace Hd
open PySem PySem.Spec PyProof.Rows L2
/-- an error at a: its class, its dict -/
def ExF (C : Value) (d : Option Addr) (a : Addr) : HO := .ext fun h => ∃ (oe : Obj) (vs : Array Value), h.get? a = some oe ∧ Zc C d oe ∧ oe.data = .fields vs
theorem exF_ok {P : Program} {w : World} {H : Hp} {h : Heap} {C : Value} {d : Option Addr} {a : Addr} {oe : Obj} {vs : Array Value} (e : h.get? a = some oe) (z : Zc C d oe) (hd : oe.data = .fields vs) : ObjOk P w H h a (ExF C d a) :=
  ⟨⟨oe, vs, e, z, hd⟩, ⟨oe, e⟩, fun _ _ ⟨o, us, b1, b2, b3⟩ k => ⟨o, us, k _ b1, b2, b3⟩⟩
theorem exF_at {P : Program} {w : World} {H : Hp} {h : Heap} {C : Value} {d : Option Addr} {a : Addr} (ok : HOk P w H h) (e : H a = some (ExF C d a)) : ∃ (oe : Obj) (vs : Array Value), h.get? a = some oe ∧ Zc C d oe ∧ oe.data = .fields vs := by
  have z : ObjOk P w H h a (ExF C d a) := ok a _ e
  exact z.1
section
variable {X : Cx} {pins : List (Addr × Obj)} {σ : L2.St} {H : Hp} {s : Shared} {a : Addr} {oe : Obj} {vs : Array Value} {C : Value} {d : Option Addr}
/-- a pinned error becomes a tracked one -/
theorem track (I : Inv X ((a, oe) :: pins) σ H s) (z : Zc C d oe) (hd : oe.data = .fields vs) (n0 : X.s_0.heap.get? a = none) (np : ∀ p ∈ X.pn ++ pins, p.1 ≠ a) : Inv X pins σ (upd H a (ExF C d a)) s := by
  obtain ⟨ha, na, nL, nF, nc⟩ := I.pin (a, oe) (List.mem_append_right _ List.mem_cons_self)
  have ha : s.heap.get? a = some oe := ha
  have na : H a = none := na
  have other : ∀ {b : Addr} {u : HO}, H b = some u → upd H a (ExF C d a) b = some u := fun {b u} e => by
    rw [upd_ne (fun q => by rw [q, na] at e; cases e)]
    exact e
  have old : ∀ {b : Addr} {o : Obj}, X.s_0.heap.get? b = some o → upd H a (ExF C d a) b = H b := fun {b o} e => upd_ne fun q => by
    rw [q, n0] at e
    cases e
  refine ⟨I.ok, I.os, I.bare, ⟨I.base.keep, I.base.slot, fun b o e n hx => ?_, I.base.there, fun b xs e => ?_, fun b o u e => ?_, fun b ps e => ?_⟩, I.loc, I.cell, ?_, fun x c e => ?_, fun p hp => ?_, fun b u e => ?_, I.len⟩
  · rw [old e]
    exact I.base.free b o e n hx
  · exact other (I.base.tups b xs e)
  · exact other (I.base.frzs b o u e)
  · obtain ⟨more, q⟩ := I.base.tbls b ps e
    exact ⟨more, other q⟩
  · rw [upd_ne (Ne.symm nL)]
    exact I.free
  · rw [upd_ne]
    · exact I.freeC x c e
    · intro q
      obtain ⟨v, o, ho, hv⟩ := I.cell x c e
      rw [q, ha] at ho
      cases ho
      exact nc v hv
  · have hp2 : p ∈ X.pn ++ ((a, oe) :: pins) := (List.mem_append.mp hp).elim (fun q => List.mem_append_left _ q) fun q => List.mem_append_right _ (List.mem_cons_of_mem _ q)
    obtain ⟨p1, p2, p3⟩ := I.pin p hp2
    exact ⟨p1, by rw [upd_ne (np p hp)]; exact p2, p3⟩
  · by_cases q : b = a
    · rw [q, upd_same] at e
      cases e
      rw [q]
      exact exF_ok ha z hd
    · rw [upd_ne q] at e
      exact (I.hok b u e).stay (fun _ _ _ r => r) (fun _ r => other r) fun _ _ r => other r
end
/-- what the clause wishes: behind its suite the error is tracked -/
def wHold (K : PySem.W.Frag) (c : Value) (i : Nat) (ts : Addr → Value → Option Addr → TS) (Wout : WX) (D : Ends) : WX := fun cls d σ H =>
  ∃ b, PySem.W.exmOne K cls c = some b ∧ (b = false → Wout cls d σ H) ∧
    (b = true → ∀ a, H a = none → ts a cls d { nx := fun σ6 H6 => D.nx (σ6.set i none) (upd H6 a (ExF cls d a)), rt := D.rt } (σ.set i (some (.ref a))) H)
section
variable {X : Cx} {x n : Str} {c : Value} {i : Nat} {body suite : List Stmt} {b₀ : Stmt} {np pos pos' : Pos} {tb : WX → TS} {ts : Addr → Value → Option Addr → TS} {Wout : WX}
theorem ps_try_hold (hs : X.stack = X.env :: X.outer) (hf : X.env.frame = some X.env.locals) (hN : X.N.Nodup) (hi : X.N[i]? = some n) (hln : X.env.kindOf n = some .local) (hc : Names X x c) (hex : X.ex = []) (tk : Takes X Wout)
    (hb : ∀ (W : WX) (pn : List (Addr × Obj)) (xe : Value → Shared → Prop), Takes (X.tr pn xe) W → PassesOwn (model X.prog X.w) X.A X.env xe → PSs (X.tr pn xe) body (tb W))
    (hsu : ∀ (a : Addr) (oe : Obj) (cls : Value) (d : Option Addr) (pn : List (Addr × Obj)), Zc cls d oe → (∃ vs, oe.data = .fields vs) → PSs (X.suite a ((a, oe) :: pn)) (b₀ :: suite) (ts a cls d)) :
    PS X (.Try body [.ExceptHandler (some (.Name x np)) (some n) (b₀ :: suite) pos'] [] [] pos) (fun D σ H => tb (wHold X.K c i ts Wout D) D σ H) := by
  constructor
  intro pins s σ H D I h
  have ok := I.ok
  have fr : X.A.frames = some (X.env :: X.outer) := ok.frames.trans (congrArg some hs)
  refine wpAny_Try_except (wpAny_mono ((hb _ (X.pn ++ pins) _ ?takes PassesOwn.looking).run [] s σ H D (I.toTry _) h) (fun fl t ht => ?_) fun _ _ z => z)
  case takes =>
    intro u t out
    obtain ⟨a, B, t0, ps0, σ0, H0, cls, d, rfl, J, nb, up, sky, na, os, ag, b, hb1, hno, hyes⟩ := out
    have J0 : Inv X pins σ0 H0 t0 := J.ofTry ok
    rw [hs] at sky
    have skyB : B.get? a = none := by
      rcases sky with q | q | q
      · exact q.2.1
      · exact q.2.1
      · exact q.2.1
    refine Sky.land Zc.steady fr hf sky fun g1 fl1 up1 => ?_
    have L1 : Inv X pins σ0 H0 { t with heap := g1 } := J0.landed nb fl1.1 (up.trans up1) os ag
    obtain ⟨o1, us1, e1, z1, d1⟩ := fl1.there
    have offStack : a ∉ frs (X.env :: X.outer) := fun hm => by
      obtain ⟨_, o', e', hnf⟩ := fl1.2.2.1.mem hm
      rw [e1] at e'
      cases e'
      exact hnf _ d1
    have offL : a ≠ X.env.locals := fun q => offStack (List.mem_filterMap.mpr ⟨X.env, List.mem_cons_self, hf.trans (congrArg some q.symm)⟩)
    have offF : a ∉ X.fs := fun hm => let ⟨e, he, q⟩ := List.mem_filterMap.mp hm; offStack (List.mem_filterMap.mpr ⟨e, List.mem_cons_of_mem _ he, q⟩)
    have fresh : t0.heap.get? a = none := by
      cases q : t0.heap.get? a with
      | none => rfl
      | some o =>
        have q2 := nb a o q (by rw [hs]; exact offStack)
        rw [skyB] at q2
        cases q2
    have fresh0 : X.s_0.heap.get? a = none := by
      cases q : X.s_0.heap.get? a with
      | none => rfl
      | some o =>
        by_cases hx : a ∈ X.ex
        · exact absurd hx (by rw [hex]; simp)
        · obtain ⟨o', q2⟩ := J0.base.there a o q hx
          rw [fresh] at q2
          cases q2
    have pinsOff : ∀ p ∈ X.pn ++ pins, p.1 ≠ a := fun p hp q => by
      have q2 := (J0.pin p hp).1
      rw [q, fresh] at q2
      cases q2
    have S1 := L1.suite e1 d1 na offL offF
    refine wpAny_handleBy_cons (codeAny_handlers_test ?_) (by intro q; cases q)
    have LT : PySem.W.Looks (model X.prog X.w) g1 (typeOf (.ref a)) cls := fun _ _ _ r k q => wpAny_typeOf_ref (k _ _ e1) (by rw [z1.1]; exact q)
    have LM := PySem.W.exm_one (M := model X.prog X.w) L1.kIn LT hb1
    have asks : ∀ {Q E : Value → Shared → Prop}, Q c { t with heap := g1 } → wpAny (model X.prog X.w) (X.A.mark (some (.ref a))) (eval (.Name x np) X.env) Q E { t with heap := g1 } := fun {Q E} q => by
      obtain ⟨hg, hdbg, hm | ⟨hm, hv, hnn⟩⟩ := hc
      · exact ld_glob (X := X.suite a ((a, o1) :: (X.pn ++ pins))) S1 hg hm q hdbg
      · exact ld_blt (X := X.suite a ((a, o1) :: (X.pn ++ pins))) S1 hg hm hv q hnn hdbg
    refine asks (LM.here ?_)
    cases b with
    | false =>
      refine wpAny_handleBy_nil ?_
      obtain ⟨_, _, _, o3, us3, T, _, _, e3, _, d3, i3, _⟩ := id fl1
      unfold PySem.passOn
      refine wpAny_bind (wpAny_field e3 d3 i3 ?_)
      rw [if_neg (fun q : (Value.ref T == Value.none) = true => nomatch q)]
      have away : wpAny (model X.prog X.w) X.A (setFlight (.ref a) X.env.frame) (fun _ r => wpAny (model X.prog X.w) X.A (throw (.ref a) : Sem Flow) (SP X pins D) X.xe r) X.xe { t with heap := g1 } := by
        rw [hf]
        refine HandSPX.setFlight_upZ fl1 fun g2 fl2 up2 => wpAny_throw (tk _ _ ?_)
        exact ⟨a, B, t0, pins, σ0, H0, cls, d, rfl, J0, nb, (up.trans up1).trans up2, .inr (.inr (by rw [hs]; exact fl2)), na, os, ag, hno rfl⟩
      first
        | exact wpAny_bind (wpAny_pure (wpAny_bind away))
        | exact wpAny_bind away
    | true =>
      refine codeAny_handlers_suite_as (HandSPX.lands_againZ fl1 fun g2 fl2 up2 => ?_)
      have L2' : Inv X pins σ0 H0 { t with heap := g2 } := J0.landed nb fl2.1 ((up.trans up1).trans up2) os ag
      obtain ⟨o2, us2, e2, z2, d2⟩ := fl2.there
      have S2 := L2'.suite e2 d2 na offL offF
      refine store_ok (X := X.suite a ((a, o2) :: (X.pn ++ pins))) (v := .ref a) S2 hN hi (.inl hln) rfl (fun t5 S5 => ?_) (.inr hln)
      refine wpAny_mono ((hsu a o2 cls d (X.pn ++ pins) z2 ⟨_, d2⟩).run [] t5 _ H0 _ S5 (hyes rfl a na)) (fun fl6 t6 h6 => ?_) (fun _ _ z => z.elim)
      have back : ∀ {σ6 : L2.St} {H6 : Hp}, Inv (X.suite a ((a, o2) :: (X.pn ++ pins))) [] σ6 H6 t6 → Inv X ((a, o2) :: pins) σ6 H6 t6 := fun S6 => by
        have U := S6.unsuite (pins := pins) ok
        exact ⟨U.ok, U.os, U.bare, U.base, U.loc, U.cell, U.free, U.freeC, fun p hp => S6.pin p (by
          rcases List.mem_append.mp hp with q | q
          · exact List.mem_append_left _ (List.mem_cons_of_mem _ (List.mem_append_left _ q))
          · rcases List.mem_cons.mp q with q | q
            · rw [q]
              exact List.mem_append_left _ List.mem_cons_self
            · exact List.mem_append_left _ (List.mem_cons_of_mem _ (List.mem_append_right _ q))), U.hok, U.len⟩
      cases fl6 with
      | next =>
        obtain ⟨σ6, H6, S6, q6⟩ := h6
        exact gone_ok (back S6) hN hi hln fun t7 J7 => ⟨_, _, track J7 z2 d2 fresh0 pinsOff, q6⟩
      | brk => obtain ⟨_, _, _, q6⟩ := h6; exact q6.elim
      | cont => obtain ⟨_, _, _, q6⟩ := h6; exact q6.elim
      | ret u =>
        obtain ⟨v6, σ6, H6, S6, r6, q6⟩ := h6
        exact gone_ok (S6.unsuite (pins := pins) ok) hN hi hln fun t7 J7 => ⟨v6, _, H6, J7, r6, q6⟩
  · cases fl with
    | next =>
      obtain ⟨σ1, H1, J1, q⟩ := ht
      exact wpAny_execs_nil ⟨σ1, H1, J1.ofTry ok, q⟩
    | brk =>
      obtain ⟨σ1, H1, J1, q⟩ := ht
      exact ⟨σ1, H1, J1.ofTry ok, q⟩
    | cont =>
      obtain ⟨σ1, H1, J1, q⟩ := ht
      exact ⟨σ1, H1, J1.ofTry ok, q⟩
    | ret u =>
      obtain ⟨v, σ1, H1, J1, r1, q⟩ := ht
      exact ⟨v, σ1, H1, J1.ofTry ok, r1, q⟩
end
end Hd
set_option Elab.async false
set_option linter.all false
set_option maxRecDepth 100000
set_option maxHeartbeats 1000000
/-! try: .. except X: .. except Y as n: .. : each error of the body is one of the two. -/
namespace Hd
open PySem PySem.Spec PyProof.Rows L2
def wTwo (K : PySem.W.Frag) (c c2 : Value) (i : Nat) (ts : TS) (ts2 : Addr → Value → Option Addr → TS) (D : Ends) : WX := fun cls d σ H =>
  (PySem.W.exmOne K cls c = some true ∧ ts { nx := D.nx, rt := D.rt } σ H) ∨
  (PySem.W.exmOne K cls c = some false ∧ PySem.W.exmOne K cls c2 = some true ∧ ∀ a, H a = none → ts2 a cls d { nx := fun σ6 H6 => D.nx (σ6.set i none) H6, rt := D.rt } (σ.set i (some (.ref a))) H)
section
variable {X : Cx} {x y n : Str} {c c2 : Value} {i : Nat} {body suite suite2 : List Stmt} {b₀ b₂ : Stmt} {np np2 pos pos' pos2 : Pos} {tb : WX → TS} {ts : TS} {ts2 : Addr → Value → Option Addr → TS}
theorem ps_try_two (hs : X.stack = X.env :: X.outer) (hf : X.env.frame = some X.env.locals) (hN : X.N.Nodup) (hi : X.N[i]? = some n) (hln : X.env.kindOf n = some .local) (hc : Names X x c) (hc2 : Names X y c2)
    (hb : ∀ (W : WX) (pn : List (Addr × Obj)) (xe : Value → Shared → Prop), Takes (X.tr pn xe) W → PassesOwn (model X.prog X.w) X.A X.env xe → PSs (X.tr pn xe) body (tb W))
    (hsu : ∀ (a : Addr) (oe : Obj) (pn : List (Addr × Obj)), PSs (X.suite a ((a, oe) :: pn)) (b₀ :: suite) ts)
    (hsu2 : ∀ (a : Addr) (oe : Obj) (cls : Value) (d : Option Addr) (pn : List (Addr × Obj)), Zc cls d oe → (∃ vs, oe.data = .fields vs) → PSs (X.suite a ((a, oe) :: pn)) (b₂ :: suite2) (ts2 a cls d)) :
    PS X (.Try body [.ExceptHandler (some (.Name x np)) none (b₀ :: suite) pos', .ExceptHandler (some (.Name y np2)) (some n) (b₂ :: suite2) pos2] [] [] pos) (fun D σ H => tb (wTwo X.K c c2 i ts ts2 D) D σ H) := by
  constructor
  intro pins s σ H D I h
  have ok := I.ok
  have fr : X.A.frames = some (X.env :: X.outer) := ok.frames.trans (congrArg some hs)
  refine wpAny_Try_except (wpAny_mono ((hb _ (X.pn ++ pins) _ ?takes PassesOwn.looking).run [] s σ H D (I.toTry _) h) (fun fl t ht => ?_) fun _ _ z => z)
  case takes =>
    intro u t out
    obtain ⟨a, B, t0, ps0, σ0, H0, cls, d, rfl, J, nb, up, sky, na, os, ag, wish⟩ := out
    have J0 : Inv X pins σ0 H0 t0 := J.ofTry ok
    rw [hs] at sky
    refine Sky.land Zc.steady fr hf sky fun g1 fl1 up1 => ?_
    have L1 : Inv X pins σ0 H0 { t with heap := g1 } := J0.landed nb fl1.1 (up.trans up1) os ag
    obtain ⟨o1, us1, e1, z1, d1⟩ := fl1.there
    have offStack : a ∉ frs (X.env :: X.outer) := fun hm => by
      obtain ⟨_, o', e', hnf⟩ := fl1.2.2.1.mem hm
      rw [e1] at e'
      cases e'
      exact hnf _ d1
    have offL : a ≠ X.env.locals := fun q => offStack (List.mem_filterMap.mpr ⟨X.env, List.mem_cons_self, hf.trans (congrArg some q.symm)⟩)
    have offF : a ∉ X.fs := fun hm => let ⟨e, he, q⟩ := List.mem_filterMap.mp hm; offStack (List.mem_filterMap.mpr ⟨e, List.mem_cons_of_mem _ he, q⟩)
    have S1 := L1.suite e1 d1 na offL offF
    have LT : PySem.W.Looks (model X.prog X.w) g1 (typeOf (.ref a)) cls := fun _ _ _ r k q => wpAny_typeOf_ref (k _ _ e1) (by rw [z1.1]; exact q)
    have asks : ∀ {v : Str} {cv : Value} {vp : Pos}, Names X v cv → ∀ {Q E : Value → Shared → Prop}, Q cv { t with heap := g1 } → wpAny (model X.prog X.w) (X.A.mark (some (.ref a))) (eval (.Name v vp) X.env) Q E { t with heap := g1 } := fun {v cv vp} hv {Q E} q => by
      obtain ⟨hg, hdbg, hm | ⟨hm, hw, hnn⟩⟩ := hv
      · exact ld_glob (X := X.suite a ((a, o1) :: (X.pn ++ pins))) S1 hg hm q hdbg
      · exact ld_blt (X := X.suite a ((a, o1) :: (X.pn ++ pins))) S1 hg hm hw q hnn hdbg
    rcases wish with ⟨m1, q1⟩ | ⟨m1, m2, q2⟩
    · refine wpAny_handleBy_cons (codeAny_handlers_test (asks hc ((PySem.W.exm_one (M := model X.prog X.w) L1.kIn LT m1).here ?_))) (by intro q; cases q)
      refine codeAny_handlers_suite (HandSPX.lands_againZ fl1 fun g2 fl2 up2 => ?_)
      have L2' : Inv X pins σ0 H0 { t with heap := g2 } := J0.landed nb fl2.1 ((up.trans up1).trans up2) os ag
      obtain ⟨o2, us2, e2, z2, d2⟩ := fl2.there
      have S2 := L2'.suite e2 d2 na offL offF
      refine wpAny_mono ((hsu a o2 (X.pn ++ pins)).run [] _ _ H0 _ S2 q1) (fun fl6 t6 h6 => ?_) (fun _ _ z => z.elim)
      cases fl6 with
      | next => obtain ⟨σ6, H6, S6, q6⟩ := h6; exact ⟨σ6, H6, S6.unsuite (pins := pins) ok, q6⟩
      | brk => obtain ⟨_, _, _, q6⟩ := h6; exact q6.elim
      | cont => obtain ⟨_, _, _, q6⟩ := h6; exact q6.elim
      | ret u => obtain ⟨v6, σ6, H6, S6, r6, q6⟩ := h6; exact ⟨v6, σ6, H6, S6.unsuite (pins := pins) ok, r6, q6⟩
    · refine wpAny_handleBy_cons (codeAny_handlers_test (asks hc ((PySem.W.exm_one (M := model X.prog X.w) L1.kIn LT m1).here ?_))) (by intro q; cases q)
      refine wpAny_handleBy_cons (codeAny_handlers_test (asks hc2 ((PySem.W.exm_one (M := model X.prog X.w) L1.kIn LT m2).here ?_))) (by intro q; cases q)
      refine codeAny_handlers_suite_as (HandSPX.lands_againZ fl1 fun g2 fl2 up2 => ?_)
      have L2' : Inv X pins σ0 H0 { t with heap := g2 } := J0.landed nb fl2.1 ((up.trans up1).trans up2) os ag
      obtain ⟨o2, us2, e2, z2, d2⟩ := fl2.there
      have S2 := L2'.suite e2 d2 na offL offF
      refine store_ok (X := X.suite a ((a, o2) :: (X.pn ++ pins))) (v := .ref a) S2 hN hi (.inl hln) rfl (fun t5 S5 => ?_) (.inr hln)
      refine wpAny_mono ((hsu2 a o2 cls d (X.pn ++ pins) z2 ⟨_, d2⟩).run [] t5 _ H0 _ S5 (q2 a na)) (fun fl6 t6 h6 => ?_) (fun _ _ z => z.elim)
      cases fl6 with
      | next =>
        obtain ⟨σ6, H6, S6, q6⟩ := h6
        exact gone_ok (S6.unsuite (pins := pins) ok) hN hi hln fun t7 J7 => ⟨_, _, J7, q6⟩
      | brk => obtain ⟨_, _, _, q6⟩ := h6; exact q6.elim
      | cont => obtain ⟨_, _, _, q6⟩ := h6; exact q6.elim
      | ret u =>
        obtain ⟨v6, σ6, H6, S6, r6, q6⟩ := h6
        exact gone_ok (S6.unsuite (pins := pins) ok) hN hi hln fun t7 J7 => ⟨v6, _, H6, J7, r6, q6⟩
  · cases fl with
    | next =>
      obtain ⟨σ1, H1, J1, q⟩ := ht
      exact wpAny_execs_nil ⟨σ1, H1, J1.ofTry ok, q⟩
    | brk =>
      obtain ⟨σ1, H1, J1, q⟩ := ht
      exact ⟨σ1, H1, J1.ofTry ok, q⟩
    | cont =>
      obtain ⟨σ1, H1, J1, q⟩ := ht
      exact ⟨σ1, H1, J1.ofTry ok, q⟩
    | ret u =>
      obtain ⟨v, σ1, H1, J1, r1, q⟩ := ht
      exact ⟨v, σ1, H1, J1.ofTry ok, r1, q⟩
end
end Hd
set_option Elab.async false
set_option linter.all false
set_option maxRecDepth 100000
set_option maxHeartbeats 1000000
namespace Hd
open PySem PySem.Spec PyProof.Rows L2
/-- a caught error at a of the class at C, with the fields fs in its dict at d -/
structure ErF (H : Hp) (a C d : Addr) (fs : List (Str × V)) : Prop where
  ob : H a = some (ExF (.ref C) (some d) a)
  dc : H d = some (.xd fs)
theorem ErF.inst {X : Cx} {pins : List (Addr × Obj)} {σ : L2.St} {H : Hp} {s : Shared} {a C d : Addr} {fs : List (Str × V)} (I : Inv X pins σ H s) (r : ErF H a C d fs) :
    ∃ (ox od : Obj) (mA : Str → Option Value), PySem.W.InstAt s.heap a ox C (some od) ∧ (∀ n, PySem.W.lookIn n od = some (mA n)) ∧ ∀ n, RelO (fs.lookup n) (mA n) := by
  obtain ⟨oe, vs, ha, hz, hd⟩ := exF_at I.hok r.ob
  have hx : ObjOk X.prog X.w H s.heap d (.xd fs) := I.hok d _ r.dc
  obtain ⟨mA, hns, rel⟩ := hx
  obtain ⟨od, ho, hl⟩ := lookIn_ns hns
  exact ⟨oe, od, mA, ⟨ha, hz.1, by unfold PySem.W.notCls; rw [hd] <;> rfl, by rw [hz.2]; exact ho⟩, hl, rel⟩
/-- e.f -/
def tFF (K : PySem.W.Frag) (te : TE) (f : Str) : TE := fun σ H Q => te σ H fun x H1 => ∃ a C d fs v, x = .ref a ∧ ErF H1 a C d fs ∧ XfC K C ∧ PySem.W.findIn K (.ref C) f = some none ∧ fs.lookup f = some v ∧ Q v H1
theorem pe_ff {X : Cx} {e : Expr} {te : TE} {pos : Pos} {f : Str} (he : PE X e te) (hb : attributeBase e f X.env (eval e X.env) = eval e X.env := by rfl) : PE X (.Attribute e f pos) (tFF X.K te f) := by
  refine ⟨fun pins s σ H Q I h => attr_of hb (thn (he.run pins s σ H _ I h) fun u s1 hh => ?_)⟩
  obtain ⟨x, H1, I1, rx, a, C, d, fs, v, rfl, r, T, hno, l, q⟩ := hh
  obtain rfl : u = Value.ref a := rx
  obtain ⟨ox, od, mA, J, hl, rel⟩ := r.inst I1
  obtain ⟨z, hz, rz⟩ := RelO.some_of (v := v) (o := mA f) (by rw [← l]; exact rel f)
  exact HandSPX.exc_get I1.kIn J T.ga T.gg T.exC (PySem.W.findObj_own T.hdC hno rfl (by rw [hl, hz])) (handed_of rz) ⟨v, H1, I1.tok _, rz, q⟩
/-- isinstance(e, c) -/
def rIsF (K : PySem.W.Frag) : List V → Hp → VK → Prop := fun xs H Q => ∃ (a C d : Addr) (fs : List (Str × V)) (c : V) (u : Value) (b : Bool), xs = [.ref a, c] ∧ ErF H a C d fs ∧ L2.ExcC K C ∧ ClsV c u ∧ PySem.W.kitOne K (.ref C) u = some b ∧ Q (.bl b) H
theorem call_isF {X : Cx} : CallR X (.builtin "isinstance") (rIsF X.K) := by
  intro pins s σ H xs us Q I r h
  obtain ⟨a, C, d, fs, c, u, b, rfl, hi, T, k, e, q⟩ := h
  obtain ⟨u1, u2, rfl, r1, r2⟩ := vals2 r
  have e2 := k.eq r2
  subst e2
  cases (show u1 = Value.ref a from r1)
  have hcl : (PySem.W.clsIn X.K C).isSome = true := by
    obtain ⟨cd, hc, _⟩ := PySem.W.any_some T.hd
    rw [hc]
    rfl
  obtain ⟨ox, od, mA, J, _⟩ := hi.inst I
  exact PySem.W.kia_one (PySem.W.kitx_exc hcl T.hg T.hk T.hs T.ha T.hn T.ht T.hm) I.kIn J e (fun z => nomatch z) fun tk => ⟨.bl b, H, I.tok tk, rfl, q⟩
end Hd
namespace Oo
open PySem PySem.Spec PyProof.Rows L2
/-- repr of a text -/
abbrev rRepT : List V → Hp → VK → Prop := fun xs H Q => ∃ x : Str, xs = [.str x] ∧ (reprText x).length ≤ sizeLine ∧ Q (.str (reprText x)) H
theorem call_repr_txt {X : Cx} : CallR X (.builtin "repr") rRepT := by
  intro pins s σ H xs us Q I r h
  obtain ⟨x, rfl, hz, q⟩ := h
  obtain ⟨u, rfl, ru⟩ := vals1 r
  obtain ⟨t, rfl⟩ := (show ∃ t, u = Value.str x t from ru)
  exact PySem.P.repr_of_str ⟨.str _, H, I.tok _, ⟨_, rfl⟩, q⟩ hz
end Oo
set_option Elab.async false
set_option linter.all false
set_option maxRecDepth 100000
set_option maxHeartbeats 1000000
/-! _law_heard. -/
namespace K7
open PySem PySem.Spec PyProof.Rows L2 RV EV He EF EI Hd LamX
theorem pss_of {X : Cx} {b : List Stmt} {t' : TS} (f : ∀ D σ H, t' D σ H → ∃ t, PSs X b t ∧ t D σ H) : PSs X b t' :=
  ⟨fun pins s σ H D I h => let ⟨_, p, q⟩ := f D σ H h; p.run pins s σ H D I q⟩
theorem takes_len {X : Cx} {W : WX} (tk : Takes X W) : Takes X (fun c d σ H => σ.length = X.N.length → W c d σ H) := fun u s' ⟨a, B, sI, pins, σ, H, cls, d, e, I, nb, up, sky, na, os, ag, wh⟩ =>
  tk u s' ⟨a, B, sI, pins, σ, H, cls, d, e, I, nb, up, sky, na, os, ag, wh I.len⟩
abbrev sHeard : Stmt := top 44
abbrev scHd_N : List Str := ["_law_ask", "_law_caught", "error"]
theorem scHd : FnScope scHd_N ["_law_ask"] (defScope sHeard) := ⟨rfl, rfl, rfl, by decide +kernel, rfl, by decide +kernel, by decide +kernel⟩
/-- the errors that _law_heard knows, and what it makes of each -/
def ErrH (K : PySem.W.Frag) (Q : VK) (cls : Value) (d : Option Addr) (H1 : Hp) : Prop :=
  (∃ dd v u, cls = .ref (ga K "BadText") ∧ d = some dd ∧ H1 dd = some (.xd [("word", u), ("line", v)]) ∧ ∀ r H2, Same H1 H2 → H2 r = some (.tup [v, u]) → Q (.ref r) H2) ∨
  (∃ dd x, cls = .ref (ga K "BadWay") ∧ d = some dd ∧ H1 dd = some (.xd [("value", .str x)]) ∧ (reprText x).length ≤ sizeLine ∧ ∀ r H2, Same H1 H2 → H2 r = some (.tup [.str "way", .str (reprText x)]) → Q (.ref r) H2)
def TTh (K : PySem.W.Frag) : (XK → Hp → VK → Prop) → Hp → VK → Prop := fun tl H Q =>
  tl (ErrH K Q) H fun v H1 => [v].length ≤ sizeLine ∧ ∀ l, H1 l = none → Q (.ref l) (upd H1 l (.lst [v]))
theorem err_inj {P : Program} {w : World} {K : PySem.W.Frag} {mg : Str → Option Value} {base : Heap} (T : KF P w K mg base) {q r : Str × List Str} (hq : q ∈ errsN) (hr : r ∈ errsN) (e : ga K q.1 = ga K r.1) : q = r := by
  have z : relB K = true := T.relb
  unfold relB at z
  obtain ⟨_, z⟩ := ba z
  obtain ⟨_, z⟩ := ba z
  obtain ⟨_, z⟩ := ba z
  obtain ⟨_, z⟩ := ba z
  exact map_inj (of_decide_eq_true (ba (ba z).2).1) hq hr e
theorem kit_no {P : Program} {w : World} {K : PySem.W.Frag} {mg : Str → Option Value} {base : Heap} (T : KF P w K mg base) {q r : Str × List Str} (hq : q ∈ errsN) (hr : r ∈ errsN) (h1 : r ≠ q) (h2 : r.1 ∉ q.2) (h3 : ∀ b ∈ q.2, ∃ bs, (b, bs) ∈ errsN) :
    PySem.W.kitOne K (.ref (ga K q.1)) (.ref (ga K r.1)) = some false := by
  refine (kit (T.ek q hq) (T.ek r hr)).trans (congrArg some (decide_eq_false fun z => ?_))
  rcases z with z | z
  · exact h1 (err_inj T hr hq z)
  · obtain ⟨b, hb, e⟩ := List.mem_map.mp z
    obtain ⟨bs, hbs⟩ := h3 b hb
    have := err_inj T hbs hr e
    exact h2 (by rw [← this]; exact hb)
theorem kit_yes {P : Program} {w : World} {K : PySem.W.Frag} {mg : Str → Option Value} {base : Heap} (T : KF P w K mg base) {q : Str × List Str} (hq : q ∈ errsN) : PySem.W.kitOne K (.ref (ga K q.1)) (.ref (ga K q.1)) = some true :=
  (kit (T.ek q hq) (T.ek q hq)).trans (by simp)
theorem above_in : ∀ b ∈ bT, ∃ bs, (b, bs) ∈ errsN := by
  intro b hb
  have : b = "EditionError" ∨ b = "BadInput" := by
    have z : bT.all (fun b => decide (b = "EditionError") || decide (b = "BadInput")) = true := by decide +kernel
    have := List.all_eq_true.mp z b hb
    rcases Bool.or_eq_true_iff.mp this with h | h
    · exact .inl (of_decide_eq_true h)
    · exact .inr (of_decide_eq_true h)
  rcases this with rfl | rfl
  · exact ⟨[], by decide⟩
  · exact ⟨["EditionError"], by decide⟩
theorem heard_gives {X : Cx} {q : Str} {f19 : Addr} {cdg : Value} (T : KF X.prog X.w X.K X.mg X.base) : GivesTo X scHd_N "_law_heard" (defScope sHeard) f19 cdg (defBody sHeard) "_law_ask" q (TTh X.K) := by
  intro f c' s H Q tl act hc h
  refine ⟨_, pss_cons (ps_set (i := 1) scHd.nd rfl (.inl rfl) pe_non) (pss_cons (ps_try_hold (X := (cxOf C8.CX0 X.prog X.w X.K X.mg X.base scHd_N "_law_heard" (defScope sHeard) f19 cdg X.A X.stack s H C8.E0).nox) (c := .ref (ga X.K "EditionError")) (i := 2)
      (tb := fun W D σ H => ∃ Ech : XK, (∀ cls d σ' H', σ'.length = scHd_N.length → Ech cls d H' → W cls d σ' H') ∧ σ[0]? = some (some (.ref f)) ∧ H c' = some (CodeO c' q) ∧ tl Ech H fun v H1 => [v].length ≤ sizeLine ∧ ∀ l, H1 l = none → D.rt (.ref l) (upd H1 l (.lst [v])))
      rfl rfl scHd.nd rfl rfl ⟨by rfl, by decide, .inl (T.gl ("EditionError", []) (by decide))⟩ rfl L2.takes0 (fun W pn xe tk _ => ?_) (fun a oe cls d pn _ _ => pss_one (ps_set (i := 1) scHd.nd rfl (.inl rfl) (pv 2))))
    (pss_cons (ps_if (pt_val (pe_callB call_isF (by rfl) (T.fr "isinstance" (by decide)) PyProof.Rows.boot_isinstance (pa_cons (pv 1) (pa_cons (pe_glob (v := .ref (ga X.K "BadText")) (by rfl) T.tx.gl rfl) pa_nil))))
        (pss_one (ps_ret (pe_tup (pa_cons (pe_ff (pv 1)) (pa_cons (pe_ff (pv 1)) pa_nil))))) pss_nil)
    (pss_one (ps_ret (pe_ifExp (pt_val (pe_callB call_isF (by rfl) (T.fr "isinstance" (by decide)) PyProof.Rows.boot_isinstance (pa_cons (pv 1) (pa_cons (pe_glob (v := .ref (ga X.K "BadWay")) (by rfl) T.bw.gl rfl) pa_nil))))
      (pe_tup (pa_cons pe_str (pa_cons (pe_callB Oo.call_repr_txt (by rfl) (T.fr "repr" (by decide)) PyProof.Rows.boot_repr (pa_cons (pe_ff (pv 1)) pa_nil)) pa_nil))) (pe_tup (pa_cons pe_str pa_nil)))))))  , ?_⟩
  · refine pss_of fun D σ H' h' => ?_
    obtain ⟨Ech, hW, h1, h2, h3⟩ := h'
    exact ⟨_, pss_one (ps_ret (pe_lst (pa_cons (act _ pn xe Ech _ _ (takes_len tk) fun cls d σ' H' e hl => hW cls d σ' H' hl e) pa_nil))), h1, h2, h3⟩
  · refine ⟨_, fun cls d σ' H' hl e => ?_, rfl, hc, h⟩
    have hl : σ'.length = 3 := hl
    rcases e with ⟨dd, v, u, rfl, rfl, hd, k⟩ | ⟨dd, x, rfl, rfl, hd, hz, k⟩
    · refine ⟨true, T.xE ("BadText", bT) (by decide), (fun z => nomatch z), fun _ a na => ?_⟩
      have n1 : dd ≠ a := ne_of_none hd na
      have r : ErF (upd H' a (ExF (.ref (ga X.K "BadText")) (some dd) a)) a (ga X.K "BadText") dd [("word", u), ("line", v)] := ⟨upd_same, by rw [upd_ne n1]; exact hd⟩
      have E := T.ek ("BadText", bT) (by decide)
      have g1 : (((σ'.set 2 (some (V.ref a))).set 1 (some (V.ref a))).set 2 none)[1]? = some (some (V.ref a)) := by simp [List.getElem?_set, hl]
      refine ⟨.ref a, by simp [List.getElem?_set, hl], ?_⟩
      refine ⟨.ref a, g1, a, ga X.K "BadText", dd, _, .ref (ga X.K "BadText"), _, true, rfl, r, E.ex, .own _, kit_yes T (q := ("BadText", bT)) (by decide), true, rfl, if_posB rfl ?_⟩
      refine ⟨.ref a, g1, a, ga X.K "BadText", dd, _, v, rfl, r, E.xf, T.tx.no, rfl, .ref a, g1, a, ga X.K "BadText", dd, _, u, rfl, r, E.xf, T.tx.no2, rfl, by show 2 ≤ sizeLine; rw [sizeLine_eq]; decide, fun tp nt => ?_⟩
      exact k tp _ ((same_new na).trans (same_new nt)) upd_same
    · refine ⟨true, T.xE ("BadWay", bT) (by decide), (fun z => nomatch z), fun _ a na => ?_⟩
      have n1 : dd ≠ a := ne_of_none hd na
      have r : ErF (upd H' a (ExF (.ref (ga X.K "BadWay")) (some dd) a)) a (ga X.K "BadWay") dd [("value", .str x)] := ⟨upd_same, by rw [upd_ne n1]; exact hd⟩
      have E := T.ek ("BadWay", bT) (by decide)
      have g1 : (((σ'.set 2 (some (V.ref a))).set 1 (some (V.ref a))).set 2 none)[1]? = some (some (V.ref a)) := by simp [List.getElem?_set, hl]
      refine ⟨.ref a, by simp [List.getElem?_set, hl], ?_⟩
      refine ⟨.ref a, g1, a, ga X.K "BadWay", dd, _, .ref (ga X.K "BadText"), _, false, rfl, r, E.ex, .own _, kit_no T (q := ("BadWay", bT)) (r := ("BadText", bT)) (by decide) (by decide) (by decide) (by decide) above_in, false, rfl, if_negB rfl ?_⟩
      refine ⟨.ref a, g1, a, ga X.K "BadWay", dd, _, .ref (ga X.K "BadWay"), _, true, rfl, r, E.ex, .own _, kit_yes T (q := ("BadWay", bT)) (by decide), true, rfl, if_posB rfl ?_⟩
      refine ⟨.ref a, g1, a, ga X.K "BadWay", dd, _, .str x, rfl, r, E.xf, T.bw.no, rfl, x, rfl, hz, by show 2 ≤ sizeLine; rw [sizeLine_eq]; decide, fun tp nt => ?_⟩
      exact k tp _ ((same_new na).trans (same_new nt)) upd_same
end K7
set_option Elab.async false
set_option linter.all false
set_option maxRecDepth 100000
set_option maxHeartbeats 1000000
/-! [*x]: x an own object with __iter__ (a tuple's iterator) and __len__. -/
namespace Ow
open PySem PySem.Spec PyProof.Rows L2 PySem.W
/-- an empty list at S that none but this rule knows -/
def LsO (S : Addr) : HO := .ext fun h => ∃ c, h.get? S = some { cls := .type "list", data := .seq #[] c }
theorem star_own {X : Cx} {C f g a dx tp : Addr} {k k2 : Nat} {fd : FuncData} {sp : Sp} {fs : List (Str × V)} {xs : List V} {pins : List (Addr × Obj)} {σ : L2.St} {H : Hp} {s : Shared} {E : Value → Shared → Prop} {Q : List Value → Shared → Prop}
    (hc : X.calm = true) (I : Inv X pins σ H s) (hs : findIn X.K (.ref C) "__iter__" = some (some (.ref f))) (hf : isFn X.K (.ref f) = true) (hl : findIn X.K (.ref C) "__len__" = some (some (.ref g))) (hg : isFn X.K (.ref g) = true)
    (ea : H a = some (.ins C dx fs)) (ht : SqT X.K H tp xs) (hz : xs.length ≤ 1000) (hr : Room (k + 4) X.A)
    (FL : FnOk X.prog X.w X.K X.mg X.base CX0 k2 g fd ["self"] sp) (hb : Binds X.K fd ["self"] []) (hr2 : Room (k2 + 4) X.A) (hsp : ∀ H', (∀ c o, H c = some o → H' c = some o) → sp [.ref a] H' (fun v H2 => v = .int xs.length ∧ H2 = H') E0)
    (hit : ∀ H', (∀ c o, H c = some o → H' c = some o) → Gives1 { X with A := X.A.in1 } k f a tp H')
    (hQ : ∀ us s', Inv X pins σ H s' → Vals xs us → Q us s') : PySem.W.StarOf (model X.prog X.w) X.A E (.ref a) Q s := by
  obtain ⟨mA, O, _⟩ := ins_get I.hok ea
  obtain ⟨od, J, _⟩ := O.look
  have z : wpAny (model X.prog X.w) X.A (collect (.ref a)) Q E s := by
    unfold collect
    refine wpAny_bind (wpAny_runValue (codeAny_builtin F.entry_proto_collect ?_))
    rw [Around.under_plainId F.plain_proto_collect _]
    show wpAny _ X.A.in1 (newList [] >>= fun l => again (.builtin "list.__iadd__" ⟨[l, .ref a], []⟩)) _ _ s
    refine wpAny_bind (wpAny_newObj_type ?_)
    refine wpAny_pure ⟨plainId_quiet F.plain_list_iadd _, codeAny_builtin F.entry_list_iadd ?_⟩
    rw [Around.under_plainId F.plain_list_iadd _]
    show wpAny _ X.A.in1 (Builtin.List.listExtendWith (.ref s.heap.objs.size) (.ref a) (.ref s.heap.objs.size)) _ _ _
    have I1 : Inv X pins σ (upd H s.heap.objs.size (LsO s.heap.objs.size)) { s with heap := s.heap.push { cls := .type "list", data := .seq ([] : List Value).toArray } } := by
      have := I.laid (t' := s.toks) (a := s.heap.objs.size) (o := LsO s.heap.objs.size) (h' := s.heap.push { cls := .type "list", data := .seq ([] : List Value).toArray }) (fun b u e => Heap.get?_push_of_some _ e) (Nat.le_refl _) ⟨⟨0, Heap.get?_push_size _ rfl⟩, ⟨_, Heap.get?_push_size _ rfl⟩, fun _ _ ⟨c, e⟩ k => ⟨c, k _ e⟩⟩
      exact this
    obtain ⟨mA1, O1, _⟩ := ins_get I1.hok (a := a) (by rw [upd_ne (ne_of_none ea (I.hok.fresh (Nat.le_refl _)))]; exact ea)
    obtain ⟨od1, J1, _⟩ := O1.look
    unfold Builtin.List.listExtendWith
    refine wpAny_bind (J1.type.here ?_)
    have neS : s.heap.objs.size ≠ a := fun e => by
      have := I.hok.fresh (Nat.le_refl s.heap.objs.size)
      rw [e, ea] at this
      exact nomatch this
    have h1 : (Builtin.List.listSameRef (Value.ref s.heap.objs.size) (Value.ref a) || Value.ref C == Value.type "list" || Value.ref C == Value.type "tuple") = false := by
      have e0 : Builtin.List.listSameRef (Value.ref s.heap.objs.size) (Value.ref a) = false := by simp [Builtin.List.listSameRef, neS]
      rw [e0]
      rfl
    rw [if_neg (by rw [h1]; exact Bool.false_ne_true)]
    obtain ⟨m1, hF1⟩ := I1.fr
    have sub1 : ∀ c o, H c = some o → upd H s.heap.objs.size (LsO s.heap.objs.size) c = some o := fun c o e => by rw [upd_ne (ne_of_none e (I.hok.fresh (Nat.le_refl _)))]; exact e
    refine wpAny_bind (PySem.W.owit_iter hF1 I1.ok.mod.kin J1 hs hf (wpAny_call (codeAny_mono (hit _ sub1 _ I1.env0.in1 (hr.mono (by omega)).in1 I1.kIn) fun rs s2 hq => ?_)))
    cases rs with
    | error e => exact (show False from hq).elim
    | ok fl =>
      cases fl with
      | ret u =>
        obtain ⟨v, H2, I2, rv, it, rfl, hn, hzz, rfl⟩ := I1.after hq
        obtain rfl : u = Value.ref it := rv
        have ho : ObjOk X.prog X.w (upd (upd H s.heap.objs.size (LsO s.heap.objs.size)) it (TuO tp it)) s2.heap it (TuO tp it) := I2.hok it _ upd_same
        have st : s2.heap.IsTupleIter it tp 0 := ho.1
        unfold PySem.W.OwitIt
        have hT : s2.TypeIs (.ref it) "tuple_iterator" := let ⟨o, e1, e2, _⟩ := st; ⟨o, e1, e2⟩
        refine wpAny_specialOf hT PySem.F.slot_tuple_iterator_next.lookup ?_
        have ea2 : (upd (upd H s.heap.objs.size (LsO s.heap.objs.size)) it (TuO tp it)) a = some (.ins C dx fs) := by rw [upd_ne (ne_of_none (sub1 _ _ ea) hn)]; exact sub1 _ _ ea
        obtain ⟨mA2, O2, _⟩ := ins_get I2.hok ea2
        obtain ⟨od2, J2, _⟩ := O2.look
        refine wpAny_bind (wpAny_holding ?_)
        unfold Builtin.List.listLengthHint
        refine wpAny_bind (wpAny_bind (J2.type.here ((looks_findIn I2.kIn hl).here ?_)))
        dsimp only
        refine wpAny_ite_split (fun h => Bool.noConfusion (show false = true from h)) fun _ => ?_
        refine wpAny_ite_split (fun _ => ?_) fun h => absurd rfl h
        refine wpAny_bind (wpAny_rule ?_)
        obtain ⟨m2, hF2⟩ := I2.fr
        have sub2 : ∀ c o, H c = some o → (upd (upd H s.heap.objs.size (LsO s.heap.objs.size)) it (TuO tp it)) c = some o := fun c o e => by rw [upd_ne (ne_of_none (sub1 _ _ e) hn)]; exact sub1 _ _ e
        refine wpAny_bind (wpAny_attempt (PySem.W.len_K hF2 I2.ok.mod.kin J2 hl hg (wpAny_call (codeAny_mono (FL.run X.A.in1.in1 X.stack s2 _ ⟨[.ref a], []⟩ [.ref a] [.ref a] _ E0 (hr2.mono (by omega)).in1.in1 I2.env0.in1.in1 (by
          have := hb s2 [.ref a] I2.kIn rfl
          simpa using this) (.cons rfl .nil) (hsp _ sub2)) fun rs s3 hq => ?_))))
        cases rs with
        | error e => exact (show False from hq).elim
        | ok fl =>
          cases fl with
          | ret u =>
            obtain ⟨v, H3, I3, rv, rfl, rfl⟩ := I2.after hq
            obtain ⟨t, rfl⟩ := rv
            refine ⟨⟨by omega, by omega⟩, ?_⟩
            dsimp only
            refine wpAny_bind (wpAny_pure ?_)
            dsimp only
            refine wpAny_ite_split (fun h => ?_) fun _ => wpAny_pure ?_
            · have h2 : decide ((xs.length : Int).toNat > sizeLine) = true := h
              have := of_decide_eq_true h2
              rw [sizeLine_eq] at this
              omega
            · have n0S : X.s_0.heap.get? s.heap.objs.size = none := by
                cases e : X.s_0.heap.get? s.heap.objs.size with
                | none => rfl
                | some o => exact absurd (Heap.lt_size e) (Nat.not_lt.mpr I.sz)
              have le1 : s.heap.objs.size ≤ it := Nat.le_trans (by show s.heap.objs.size ≤ (s.heap.push _).objs.size; rw [Heap.size_push]; exact Nat.le_succ _) hzz
              have n0I : X.s_0.heap.get? it = none := by
                cases e : X.s_0.heap.get? it with
                | none => rfl
                | some o => exact absurd (Heap.lt_size e) (Nat.not_lt.mpr (Nat.le_trans I.sz le1))
              have hnH : H it = none := I.hok.fresh le1
              have hnS : H s.heap.objs.size = none := I.hok.fresh (Nat.le_refl _)
              have neIS : s.heap.objs.size ≠ it := fun e => by
                rw [← e, upd_same] at hn
                exact nomatch hn
              have J3 : Inv X pins σ H s3 := by
                have a1 := forget I3 upd_same n0I
                rw [delH_new hn] at a1
                have a2 := forget a1 upd_same n0S
                rw [delH_new hnS] at a2
                exact a2
              have hoS : ∃ c, s3.heap.get? s.heap.objs.size = some { cls := .type "list", data := .seq #[] c } := by
                have q : ObjOk X.prog X.w (upd (upd H s.heap.objs.size (LsO s.heap.objs.size)) it (TuO tp it)) s3.heap s.heap.objs.size (LsO s.heap.objs.size) := I3.hok _ _ (by rw [upd_ne neIS, upd_same])
                exact q.1
              have hoI : s3.heap.IsTupleIter it tp 0 := by
                have q : ObjOk X.prog X.w (upd (upd H s.heap.objs.size (LsO s.heap.objs.size)) it (TuO tp it)) s3.heap it (TuO tp it) := I3.hok it _ upd_same
                exact q.1
              obtain ⟨its, rvs, pl, hzs⟩ := J3.tuple ht
              obtain ⟨c0, hc0⟩ := hoS
              have neT : tp ≠ it := fun e => by
                obtain ⟨o, e1, e2, e3⟩ := hoI
                obtain ⟨o2, f1, f2, _⟩ := (show s3.heap.IsTuple tp its.toArray from pl)
                rw [e, e1] at f1
                cases f1
                rw [e2] at f2
                exact absurd f2 (by decide)
              have neTS : tp ≠ s.heap.objs.size := fun e => by
                obtain ⟨o2, f1, f2, _⟩ := (show s3.heap.IsTuple tp its.toArray from pl)
                rw [e, hc0] at f1
                cases f1
                have f3 : Value.type "list" = Value.type "tuple" := f2
                exact absurd f3 (by decide)
              have loop : ∀ (h5 : Heap) (c : Nat) (R : Result → Shared → Prop), h5.get? s.heap.objs.size = some { cls := .type "list", data := .seq #[] c } → (∀ b o, b ≠ s.heap.objs.size → s3.heap.get? b = some o → h5.get? b = some o) →
                  (∀ s' us c', Inv X pins σ H s' → Vals xs us → s'.heap.get? s.heap.objs.size = some { cls := .type "list", data := .seq us.toArray c' } → R (.ok (.ret (.ref s.heap.objs.size))) s') →
                  codeAny (model X.prog X.w) X.A (.builtin "list.extend.loop" ⟨[.ref s.heap.objs.size, .ref it, .ref s.heap.objs.size], []⟩) R { s3 with heap := h5, toks := s3.toks + 1 } := by
                intro h5 c R hS5 oth hR
                have hh : X.A.in1.handled = none := J3.ok.hd hc
                refine codeAny_extend_loopS (Walks.tuple (prog := X.prog) (w := X.w) (A := X.A.in1) hh it tp neT its.toArray).toS (by rw [List.size_toArray, ← rvs.length, sizeLine_eq]; omega) s.heap.objs.size (by simp [neIS, neTS.symm]) _ its.toArray.size 0 _ #[] c rfl (Nat.zero_le _)
                  ⟨hoI.at fun o e => oth _ _ neIS.symm e, Heap.IsTuple.at (show s3.heap.IsTuple tp its.toArray from pl) fun o e => oth _ _ neTS e⟩ hS5 (ItemsOf.nil _) fun s' acc' c' hm hS' hacc => ?_
                have eacc : acc' = its.toArray := by
                  refine Array.ext hacc.1 fun j h1 h2 => ?_
                  have q : its.toArray[j]? = some acc'[j] := hacc.2 j acc'[j] (by simp [h1])
                  rw [Array.getElem?_eq_getElem h2] at q
                  exact (Option.some.inj q).symm
                rw [eacc] at hS'
                have mv := hm.heap
                have e1 : s'.gens = s3.gens := hm.gens
                have e2 : s'.drawn = s3.drawn := hm.drawn
                have e3 : s'.os = s3.os := hm.os
                have es : s' = { s3 with heap := s'.heap, toks := s'.toks } := by
                  obtain ⟨h', g', d', t', o'⟩ := s'
                  subst e1 e2 e3
                  rfl
                refine hR s' its c' ?_ rvs hS'
                rw [es]
                refine J3.turnedL (ch := [s.heap.objs.size, it]) (t' := s'.toks) (h' := s'.heap) (fun b o hb e => ?_) fun b hb => ?_
                · have nS : b ≠ s.heap.objs.size := fun e => hb (by rw [e]; exact List.mem_cons_self)
                  exact mv b o hb (oth b o nS e)
                · rcases List.mem_cons.mp hb with rfl | hb
                  · exact I.fpOk (Nat.le_refl _) hnS
                  · rw [List.mem_singleton.mp hb]
                    exact I.fpOk le1 hnH
              refine wpAny_ite_split (fun _ => ?_) fun _ => ?_
              · refine wpAny_bind (wpAny_rule ?_)
                unfold Builtin.List.listTouch
                refine wpAny_bind (wpAny_bind (wpAny_updateSeq hc0 rfl ?_))
                have e1 := Heap.get?_update_self (Obj.mapSeq (·.push .none)) hc0 rfl
                refine wpAny_updateSeq e1 rfl ?_
                have e2 := Heap.get?_update_self (Obj.mapSeq (·.pop)) e1 rfl
                refine wpAny_pure ⟨plainId_quiet F.plain_extend_loop _, loop _ _ _ (by rw [e2]; rfl) (fun b o hb e => ?_) fun s' us c' I' rv hS' => ?_⟩
                · exact (Heap.get?_update_other _ _ hb.symm).trans ((Heap.get?_update_other _ _ hb.symm).trans e)
                · show wpAny _ X.A (load s.heap.objs.size >>= _) _ _ s'
                  refine wpAny_bind (wpAny_load hS' ?_)
                  exact wpAny_pure (hQ us s' I' rv)
              · refine wpAny_pure ⟨plainId_quiet F.plain_extend_loop _, loop s3.heap c0 _ hc0 (fun _ _ _ e => e) fun s' us c' I' rv hS' => ?_⟩
                show wpAny _ X.A (load s.heap.objs.size >>= _) _ _ s'
                refine wpAny_bind (wpAny_load hS' ?_)
                exact wpAny_pure (hQ us s' I' rv)
          | next => exact False.elim hq
          | brk => exact False.elim hq
          | cont => exact False.elim hq
      | next => exact False.elim hq
      | brk => exact False.elim hq
      | cont => exact False.elim hq
  unfold PySem.W.StarOf notIterableAtAll
  refine wpAny_bind (wpAny_bind (J.type.here ((looks_findIn I.kIn hs).here ?_)))
  exact wpAny_pure ⟨rfl, z⟩
end Ow
set_option Elab.async false
set_option linter.all false
set_option maxRecDepth 100000
set_option maxHeartbeats 1000000
/-! x + y, x of an own class with the sign, y of another own class that has neither it nor its reflected form, or of a built-in kind. -/
namespace Oo
open PySem PySem.Spec PyProof.Rows L2 PySem.W
section
variable {M : Model} {h : Heap} {K : Frag} {D : Addr}
theorem noFills {nm : String} (X : K.In h) (hmro : ((clsIn K D).any fun cd => decide (cd.mro = [.ref D, .type "object"])) = true) (h1 : findIn K (.ref D) (PySem.dunder nm) = some none) (h2 : findIn K (.ref D) (dunderR nm) = some none)
    (o1 : typeLookup (.type "object") (PySem.dunder nm) = pure none) (o2 : typeLookup (.type "object") (dunderR nm) = pure none) : Looks M h (fillsNumberSlot (.ref D) nm) false := by
  intro A Q E s k q
  obtain ⟨cd, hc, hm⟩ := any_some hmro
  have hm := of_decide_eq_true hm
  unfold fillsNumberSlot
  refine wpAny_bind ((looks_clsIn X hc).andThen (f := fun cd => pure cd.mro) .now A _ E s k ?_)
  rw [hm, List.anyM_cons]
  refine wpAny_bind ?_
  show wpAny M A (List.anyM _ [PySem.dunder nm, dunderR nm]) _ _ _
  rw [List.anyM_cons]
  refine wpAny_bind (wpAny_bind (looks_findIn X h1 A _ E s k ?_))
  refine wpAny_pure ?_
  simp only [Bool.false_eq_true, if_false]
  rw [List.anyM_cons]
  refine wpAny_bind (wpAny_bind (looks_findIn X h2 A _ E s k ?_))
  refine wpAny_pure ?_
  simp only [Bool.false_eq_true, if_false, List.anyM_nil]
  refine wpAny_pure ?_
  simp only [Bool.false_eq_true, if_false]
  rw [List.anyM_cons]
  refine wpAny_bind ?_
  rw [o1, o2]
  refine wpAny_bind (wpAny_pure (wpAny_bind (wpAny_pure (wpAny_pure ?_))))
  simp only [Option.isSome_none, Bool.false_and, Bool.or_false, Bool.false_eq_true, if_false, List.anyM_nil]
  exact wpAny_pure q
end
section
variable {prog : Program} {w : World} {A : Around} {E : Value → Shared → Prop} {s : Shared} {K : Frag} {x C D f : Addr} {ox : Obj} {od : Option Obj}
theorem binop_D {op : Operator} {b : Value} {Q : Value → Shared → Prop} (X : K.In s.heap) (I : InstAt s.heap x ox C od) (hb : Looks (model prog w) s.heap (typeOf b) (.ref D)) (ne : C ≠ D) (hc : selfFirst K C = true)
    (hs : findIn K (.ref C) (PySem.dunder op.info.2) = some (some (.ref f))) (hD : Looks (model prog w) s.heap (fillsNumberSlot (.ref D) op.info.2) false) (hf : isFn K (.ref f) = true)
    (h : wpAny (model prog w) A (call (.ref f) [.ref x, b]) (W.CmpBack Q) E s) : wpAny (model prog w) A (binaryOp op (.ref x) b) Q E s := by
  obtain ⟨cd, hcd, hm⟩ := any_some hc
  have hm2 : ∃ l, cd.mro = .ref C :: l := by
    rcases e : cd.mro with _ | ⟨c0, l⟩
    · rw [e] at hm; exact nomatch hm
    · rw [e, List.head?_cons] at hm
      exact ⟨l, by rw [Option.some.inj (beq_iff_eq.mp hm)]⟩
  obtain ⟨l, hm2⟩ := hm2
  have one : wpAny (model prog w) A (tryMethod (.ref x) (PySem.dunder op.info.2) b) (fun z s' => ∃ v, z = some v ∧ Q v s') E s := by
    unfold tryMethod
    refine wpAny_bind (special_fn X I hs (beq_iff_eq.mp hf) (wpAny_mono h (fun v s' hv => ?_) fun _ _ e => e))
    cases v <;> first | exact hv.elim | exact wpAny_pure ⟨_, rfl, hv⟩
  have bin1 : wpAny (model prog w) A (binaryOp1 op.info.2 (.ref x) b) (fun z s' => ∃ v, z = some v ∧ Q v s') E s := by
    unfold binaryOp1
    refine wpAny_bind (I.type.here (wpAny_bind (hb.here (wpAny_bind ((fills_K X hcd hm2 hs).here ?_)))))
    have e0 : ((Value.ref C) == (Value.ref D)) = false := by
      rw [beq_eq_false_iff_ne]
      intro z
      exact ne (Value.ref.inj z)
    simp only [e0, if_false, Bool.false_eq_true]
    refine wpAny_bind (hD.here ?_)
    simp only [Bool.and_false, Bool.false_eq_true, if_false, Bool.false_and]
    refine wpAny_bind (wpAny_pure ?_)
    simp only [Bool.false_eq_true, if_false, if_true]
    refine wpAny_bind (wpAny_mono one (fun z s' hz => ?_) fun _ _ e => e)
    obtain ⟨v, rfl, q⟩ := hz
    exact wpAny_pure ⟨v, rfl, q⟩
  unfold binaryOp
  refine wpAny_holding (wpAny_bind (m := binaryOp1 op.info.2 (.ref x) b) (wpAny_mono bin1 (fun z s' hz => ?_) fun _ _ e => e))
  obtain ⟨v, rfl, q⟩ := hz
  exact wpAny_pure q
end
theorem looks_add : (kindsT.all fun t => (builtinLookup t (PySem.dunder "add")).isSome && (builtinLookup t (dunderR "add")).isSome) = true := by decide +kernel
theorem kindAdd {T : String} (hT : T ∈ kindsT) : KindOp "add" T := by
  have h := List.all_eq_true.mp looks_add T hT
  obtain ⟨h1, h2⟩ := Bool.and_eq_true_iff.mp h
  obtain ⟨f, hf⟩ := look_some h1
  obtain ⟨r, hr⟩ := look_some h2
  refine ⟨⟨(f.isSome && !isSeqSlot f) || (r.isSome && !isSeqSlot r), ?_⟩, r, hr⟩
  simp only [fillsNumberSlot, hf, hr, pure_bind]
theorem no_add : typeLookup (.type "object") (PySem.dunder "add") = pure none ∧ typeLookup (.type "object") (dunderR "add") = pure none ∧ typeLookup (.type "object") (dunderI "add") = pure none := by
  refine ⟨?_, ?_, ?_⟩ <;> (rw [typeLookup_type, show builtinLookup "object" _ = some none from by decide +kernel])
section
variable {X : Cx} {CX : CXT} {k : Nat} {C f : Addr} {sp : Sp} {E : XK}
/-- what the class of y may be in x + y -/
def okAdd (K : Frag) (C : Addr) (t : Value) : Prop := t = .ref C ∨ (∃ T ∈ kindsT, t = .type T) ∨ ∃ D, t = .ref D ∧ C ≠ D ∧ ((clsIn K D).any fun cd => decide (cd.mro = [.ref D, .type "object"])) = true ∧ findIn K (.ref D) (PySem.dunder "add") = some none ∧ findIn K (.ref D) (dunderR "add") = some none
theorem op_add (c : OpC X.K C f "add") (F : FnR X.prog X.w X.K X.mg X.base CX k f sp) (hr : Room k X.A) (hx : Passes CX X E) : OpR X (binaryOp .Add) (rOwn2 X.K C (okAdd X.K C) sp E) := by
  intro pins s σ H x y v u Q I rx ry h
  obtain ⟨a, dx, fs, t, rfl, ea, ty, ok, q⟩ := h
  obtain rfl : v = Value.ref a := rx
  have back : wpAny (model X.prog X.w) X.A (call (.ref f) [.ref a, u]) (W.CmpBack (EP X pins σ Q)) X.xe s := thn (wpAny_call (run_fnR (us := [.ref a, u]) (vs := [.ref a, y]) F hr hx I (.cons rfl (.cons ry .nil)) q)) fun z s' hz => by
    obtain ⟨w, H', I', rw', q'⟩ := hz
    exact back_of rw' ⟨w, H', I', rw', q'⟩
  obtain ⟨mA, O, _⟩ := ins_get I.hok ea
  obtain ⟨od, J, _⟩ := O.look
  rcases ok with rfl | ⟨T, hT, rfl⟩ | ⟨D, rfl, ne, hm, h1, h2⟩
  · exact op_binO (op := .Add) c.mt c.sf F hr hx pins s σ H (.ref a) y _ u Q I (show RelV (V.ref a) (Value.ref a) from rfl) ry ⟨a, dx, fs, _, rfl, ea, ty, rfl, q⟩
  · exact binop_T (op := .Add) I.kIn J (looks_ty I ry ty) c.sf c.mt.at_ c.nr (c.sub T hT) c.mt.fn (kindAdd hT) back
  · exact binop_D (op := .Add) I.kIn J (looks_ty I ry ty) ne c.sf c.mt.at_ (noFills I.kIn hm h1 h2 no_add.1 no_add.2.1) c.mt.fn back
end
end Oo
set_option Elab.async false
set_option linter.all false
set_option maxRecDepth 100000
set_option maxHeartbeats 1000000
/-! [*x] of a lot; Note.__add__. -/
namespace K7
open PySem PySem.Spec PyProof.Rows L2 RV EV He EF EI
def tStarL (K : PySem.W.Frag) (te : TE) (t : TA) : TA := fun σ H Q => te σ H fun x H1 => ∃ p ns, x = V.ref p ∧ IsLot K H1 p ns ∧ t σ H1 fun ys H2 => Q (ns.map V.str ++ ys) H2
theorem pa_starL {X : Cx} {e : Expr} {es : List Expr} {te : TE} {t : TA} {p : Pos} (T : KF X.prog X.w X.K X.mg X.base) (hc : X.calm = true) (hr : Room 6 X.A) (he : PE X e te) (ha : PA X es t) (hs : starEach (.Starred e p :: es) X.env = (true, eval e X.env) :: starEach es X.env := by rfl) :
    PA X (.Starred e p :: es) (tStarL X.K te t) := by
  obtain ⟨_, fl, Fl⟩ := T.lot ("__len__", 7) (by decide)
  have bl : L2.Binds X.K fl ["self"] [] := FunD.bindsN Fl fun _ _ _ _ _ _ us hl => match us, hl with | [_], _ => rfl
  have m1 := lm T ("__iter__", 8) (by decide)
  have m2 := lm T ("__len__", 7) (by decide)
  refine ⟨fun pos pins s σ H Q I h => ?_⟩
  refine PySem.W.items_star (thn (he.run pins s σ H _ I h) fun v s1 ⟨y, H1, I1, ry, a, ns, ey, ⟨dx, tp, O⟩, q⟩ => ?_) hs
  subst ey
  obtain rfl : v = Value.ref a := ry
  have le8 := O.le
  refine Ow.star_own (k := 1) (k2 := 1) hc I1 m1.at_ m1.fn m2.at_ m2.fn O.ob (SqT.of O.ps) (by rw [List.length_map]; omega) (hr.mono (by decide)) (ok_lenL T Fl) bl (hr.mono (by decide)) (fun H' s' => ?_) (fun H' s' => gives_iterL (X := { X with A := X.A.in1 }) T (O.same s')) fun us s2 I2 rv => ?_
  · exact ⟨a, ns, rfl, ⟨dx, tp, O.same s'⟩, by rw [List.length_map], rfl⟩
  · exact thn (ha.run pos pins s2 σ H1 _ I2 q) fun ws s3 ⟨vs, H3, I3, r3, q3⟩ => ⟨ns.map V.str ++ vs, H3, I3, rv.append r3, q3⟩
abbrev aSt : Stmt := nSt 6
abbrev scAd_N : List Str := ["self", "other", "gained", "lost", "fix"]
theorem scAd : FnScope scAd_N ["self", "other"] (defScope aSt) := ⟨rfl, rfl, rfl, by decide +kernel, rfl, by decide +kernel, by decide +kernel⟩
section
variable {P : Program} {w : World} {K : PySem.W.Frag} {mg : Str → Option Value} {base : Heap}
theorem mem_without {x : Str} {xs ys : List Str} : x ∈ without xs ys ↔ x ∈ xs ∧ x ∉ ys := by
  unfold without
  rw [List.mem_filter]
  by_cases h : x ∈ ys <;> simp [h]
theorem apart_without {xs ys : List Str} : apartB (lined (without xs ys)) (lined (without ys xs)) = true := by
  rw [apart_iff]
  intro x hx hy
  rw [mem_lined, mem_without] at hx hy
  exact hx.2 hy.1
theorem any_apart {xs ys : List Str} {b : Bool} (h : apartB xs ys = b) : (xs.any fun x => decide (x ∈ ys)) = !b := by
  unfold apartB at h
  rw [← h, Bool.not_not]
theorem c_wo (T : KF P w K mg base) : Callee P w K mg base (L2.CX P w) 7 "fixes_without" ["fixes", "out"] (spWo K) := by
  obtain ⟨fd, F, g⟩ := T.tops ("fixes_without", 37) (by decide)
  exact ⟨fd, ok_wo T F, FunD.bindsN F fun _ _ _ _ _ _ us hl => match us, hl with | [_, _], _ => rfl, F.kp, g⟩
/-- what is got of two notes together -/
structure AddR (K : PySem.W.Frag) (E : XK) (Q : VK) (ga lo gb lb : List Str) (H : Hp) : Prop where
  un : apartB ga gb = false ∨ apartB lo lb = false → ∀ H', Same H H' → Bad1 (He.ga K "Unlike") "part" H' E (.str "fix")
  ok : apartB ga gb = true → apartB lo lb = true → (lined (without (ga ++ gb) (lo ++ lb))).length ≤ 8 → (lined (without (lo ++ lb) (ga ++ gb))).length ≤ 8 → ∀ x H', Same H H' → IsNote K H' x (lined (without (ga ++ gb) (lo ++ lb))) (lined (without (lo ++ lb) (ga ++ gb))) → Q (.ref x) H'
  big : apartB ga gb = true → apartB lo lb = true → 8 < (lined (without (ga ++ gb) (lo ++ lb))).length ∨ 8 < (lined (without (lo ++ lb) (ga ++ gb))).length → ∀ H', Same H H' → Bad2 (He.ga K "TooMany") "what" "most" H' E (.str "fixes") (.int 8)
def spAdd (K : PySem.W.Frag) : Sp := fun vs H Q E => ∃ p ga lo v, vs = [.ref p, v] ∧ IsNote K H p ga lo ∧ ((∃ q gb lb, v = .ref q ∧ IsNote K H q gb lb ∧ AddR K E Q ga lo gb lb H) ∨ ((∃ t, TyX K H v t ∧ PySem.W.kitOne K t (.ref (gNo K)) = some false) ∧ Bad1 (He.ga K "BadWay") "value" H E (.str "other")))
theorem ok_add (T : KF P w K mg base) {fd : FuncData} (F : FunD K "__add__" "Note.__add__" (defArgs aSt) (defBody aSt) (defScope aSt) [] [] (ma K (gNo K) "__add__") fd) : FnOk P w K mg base (L2.CX P w) 9 (ma K (gNo K) "__add__") fd ["self", "other"] (spAdd K) := by
  obtain ⟨fn, Gn, bn, mn, gn⟩ := mk_note (w := w) T
  obtain ⟨fw, Gw, bw, kw, gw⟩ := c_wo (w := w) T
  refine F.ok scAd (fun vs H Q E h => ?_) (fun cdv A outer s H vs Q E hr h => ?_)
  · obtain ⟨p, ga, lo, v, rfl, _⟩ := h
    rfl
  · obtain ⟨p, ga, lo, v, rfl, N, k⟩ := h
    have hp : Passes (L2.CX P w) (cxOf (L2.CX P w) P w K mg base scAd_N "Note.__add__" (defScope aSt) (ma K (gNo K) "__add__") cdv A outer s H E) E := passes_call (takes_of rfl rfl rfl rfl) fun _ _ _ _ h => h
    refine ⟨_, pss_cons (ps_if (pt_not (pt_val (pe_callB call_isi (by rfl) (T.fr "isinstance" (by decide)) PyProof.Rows.boot_isinstance (pa_cons (pv 1) (pa_cons (pe_glob (v := .ref (gNo K)) (by rfl) (T.gk ("Note", 39) (by decide)).1 rfl) pa_nil)))))
        (pss_one (ps_raise1 T.bw (hr.mono (by decide)) rfl (takes_of rfl rfl rfl rfl) (by rfl) pe_str)) pss_nil)
      (pss_cons (ps_if (PW.pt (pw_or (pt_val (pe_callB (cr_any rfl) (by rfl) (T.fr "any" (by decide)) boot_any (pa_cons (pe_lc (own := [("fix", 4)]) (g := gName 4) (tt := tYes) (te := tOp (Oo.rInO (gO K) (fun b => b) (spCoL K) E0) (tVar 4) (tFld K (tVar 1) "gained")) rfl scAd.nd
            (Ow.pi_own (k := 1) (pe_fld (pv 0) rfl) (lm T ("__iter__", 8) (by decide)).at_ (lm T ("__iter__", 8) (by decide)).fn (hr.mono (by decide)))
            (blkOk_by (N := scAd_N) (sc := defScope aSt) (by decide +kernel)) (fun _ _ _ _ _ => pg_name (i := 4) scAd.nd rfl (.inl rfl)) (fun _ _ _ _ _ => pts_nil)
            (fun _ _ _ _ _ => pe_cmpR (Oo.op_inO (lm T ("__contains__", 6) (by decide)) (r_co T) (hr.mono (by decide)) pass0) (pv 4) (pe_fld (pv 1) rfl) rfl)) pa_nil)))
          (pw_or1 (pt_val (pe_callB (cr_any rfl) (by rfl) (T.fr "any" (by decide)) boot_any (pa_cons (pe_lc (own := [("fix", 4)]) (g := gName 4) (tt := tYes) (te := tOp (Oo.rInO (gO K) (fun b => b) (spCoL K) E0) (tVar 4) (tFld K (tVar 1) "lost")) rfl scAd.nd
            (Ow.pi_own (k := 1) (pe_fld (pv 0) rfl) (lm T ("__iter__", 8) (by decide)).at_ (lm T ("__iter__", 8) (by decide)).fn (hr.mono (by decide)))
            (blkOk_by (N := scAd_N) (sc := defScope aSt) (by decide +kernel)) (fun _ _ _ _ _ => pg_name (i := 4) scAd.nd rfl (.inl rfl)) (fun _ _ _ _ _ => pts_nil)
            (fun _ _ _ _ _ => pe_cmpR (Oo.op_inO (lm T ("__contains__", 6) (by decide)) (r_co T) (hr.mono (by decide)) pass0) (pv 4) (pe_fld (pv 1) rfl) rfl)) pa_nil))))))
        (pss_one (ps_raise1 T.un (hr.mono (by decide)) rfl (takes_of rfl rfl rfl rfl) (by rfl) pe_str)) pss_nil)
      (pss_cons (ps_set (i := 2) scAd.nd rfl (.inl rfl) (pe_lst (pa_starL T rfl (hr.mono (by decide)) (pe_fld (pv 0) rfl) (pa_starL T rfl (hr.mono (by decide)) (pe_fld (pv 1) rfl) pa_nil))))
      (pss_cons (ps_set (i := 3) scAd.nd rfl (.inl rfl) (pe_lst (pa_starL T rfl (hr.mono (by decide)) (pe_fld (pv 0) rfl) (pa_starL T rfl (hr.mono (by decide)) (pe_fld (pv 1) rfl) pa_nil))))
      (pss_one (ps_ret (pe_make (E := E) mn Gn (hr.mono (by decide)) (by rfl) gn bn .nil hp
        (pa_cons (pe_call (E := E) Gw (hr.mono (by decide)) (by rfl) gw kw bw .nil hp (pa_cons (pv 2) (pa_cons (pv 3) pa_nil)))
          (pa_cons (pe_call (E := E) Gw (hr.mono (by decide)) (by rfl) gw kw bw .nil hp (pa_cons (pv 3) (pa_cons (pv 2) pa_nil))) pa_nil)))))))), ?_⟩
    rcases k with ⟨q, gb, lb, rfl, M, AR⟩ | ⟨⟨t, ty, kt⟩, bd⟩
    · obtain ⟨dx, g, l, N⟩ := N
      obtain ⟨dy, g2, l2, M⟩ := M
      refine ⟨_, rfl, .ref q, .ref (gNo K), _, _, true, rfl, .own _, ty_note T M.ob, (kits T).nn, true, rfl, if_negB rfl ?_⟩
      show tAny (cxOf (L2.CX P w) P w K mg base scAd_N "Note.__add__" (defScope aSt) (ma K (gNo K) "__add__") cdv A outer s H E) 4 (tFld K (tVar 0) "gained") (tFld K (tVar 1) "gained") [some (.ref p), some (.ref q), none, none, none] H _
      refine any_read (X := cxOf (L2.CX P w) P w K mg base scAd_N "Note.__add__" (defScope aSt) (ma K (gNo K) "__add__") cdv A outer s H E) (ti := tFld K (tVar 0) "gained") (tj := tFld K (tVar 1) "gained") (i := 4) (σ := [some (.ref p), some (.ref q), none, none, none]) T N.g M.g (fun R r => ⟨_, rfl, p, gNo K, dx, _, _, rfl, N.ob, cls_note T, T.noGa, rfl, r⟩)
        (fun z H' R s' r => ⟨_, rfl, q, gNo K, dy, _, _, rfl, s' _ _ M.ob, cls_note T, T.noGa, rfl, r⟩) (fun _ => rfl) (fun _ => rfl) fun H1 s1 => ⟨_, rfl, ?_⟩
      cases e1 : apartB ga gb with
      | false => exact if_posB (any_apart e1) (if_posB rfl (mkb1 (AR.un (.inl e1) H1 s1)))
      | true =>
        refine if_negB (any_apart e1) ?_
        have N1 := N.same s1
        have M1 := M.same s1
        show tAny (cxOf (L2.CX P w) P w K mg base scAd_N "Note.__add__" (defScope aSt) (ma K (gNo K) "__add__") cdv A outer s H E) 4 (tFld K (tVar 0) "lost") (tFld K (tVar 1) "lost") [some (.ref p), some (.ref q), none, none, none] H1 _
        refine any_read (X := cxOf (L2.CX P w) P w K mg base scAd_N "Note.__add__" (defScope aSt) (ma K (gNo K) "__add__") cdv A outer s H E) (ti := tFld K (tVar 0) "lost") (tj := tFld K (tVar 1) "lost") (i := 4) (σ := [some (.ref p), some (.ref q), none, none, none]) T N1.l M1.l (fun R r => ⟨_, rfl, p, gNo K, dx, _, _, rfl, N1.ob, cls_note T, T.noLs, rfl, r⟩)
          (fun z H' R s' r => ⟨_, rfl, q, gNo K, dy, _, _, rfl, s' _ _ M1.ob, cls_note T, T.noLs, rfl, r⟩) (fun _ => rfl) (fun _ => rfl) fun H2 s2 => ⟨_, rfl, ?_⟩
        have s12 := s1.trans s2
        cases e2 : apartB lo lb with
        | false => exact if_posB (any_apart e2) (mkb1 (AR.un (.inr e2) H2 s12))
        | true =>
          refine if_negB (any_apart e2) ?_
          have N2 := N.same s12
          have M2 := M.same s12
          obtain ⟨dg, tg, G⟩ := N2.g
          obtain ⟨dl, tl, L⟩ := N2.l
          obtain ⟨dg2, tg2, G2⟩ := M2.g
          obtain ⟨dl2, tl2, L2'⟩ := M2.l
          have z1 := G.le
          have z2 := L.le
          have z3 := G2.le
          have z4 := L2'.le
          refine ⟨_, rfl, p, gNo K, dx, _, _, rfl, N2.ob, cls_note T, T.noGa, rfl, g, ga, rfl, N2.g, _, rfl, q, gNo K, dy, _, _, rfl, M2.ob, cls_note T, T.noGa, rfl, g2, gb, rfl, M2.g, ?_, fun a1 n1 => ?_⟩
          · rw [List.append_nil, List.length_append, List.length_map, List.length_map, sizeLine_eq]
            omega
          have s3 := same_new (o := .lst (ga.map V.str ++ (gb.map V.str ++ []))) n1
          have N3 := N2.same s3
          have M3 := M2.same s3
          refine ⟨_, rfl, p, gNo K, dx, _, _, rfl, N3.ob, cls_note T, T.noLs, rfl, l, lo, rfl, N3.l, _, rfl, q, gNo K, dy, _, _, rfl, M3.ob, cls_note T, T.noLs, rfl, l2, lb, rfl, M3.l, ?_, fun a2 n2 => ?_⟩
          · rw [List.append_nil, List.length_append, List.length_map, List.length_map, sizeLine_eq]
            omega
          have s4 := same_new (o := .lst (lo.map V.str ++ (lb.map V.str ++ []))) n2
          have h1 : (upd (upd H2 a1 (.lst (ga.map V.str ++ (gb.map V.str ++ [])))) a2 (.lst (lo.map V.str ++ (lb.map V.str ++ [])))) a1 = some (.lst ((ga ++ gb).map V.str)) := by
            rw [s4 _ _ upd_same, List.append_nil, ← List.map_append]
          have h2 : (upd (upd H2 a1 (.lst (ga.map V.str ++ (gb.map V.str ++ [])))) a2 (.lst (lo.map V.str ++ (lb.map V.str ++ [])))) a2 = some (.lst ((lo ++ lb).map V.str)) := by
            rw [upd_same, List.append_nil, ← List.map_append]
          have f1 : ∀ x ∈ ga ++ gb, isFixB x = true := fun x hx => (List.mem_append.mp hx).elim (G.fx x) (G2.fx x)
          have f2 : ∀ x ∈ lo ++ lb, isFixB x = true := fun x hx => (List.mem_append.mp hx).elim (L.fx x) (L2'.fx x)
          have s24 := s12.trans (s3.trans s4)
          refine ⟨_, rfl, _, rfl, a1, a2, ga ++ gb, lo ++ lb, rfl, h1, h2, by rw [List.length_append]; omega, f1, fun H5 s5 => ⟨fun h8 H6 x6 d6 t6 s6 O6 => ?_, fun h8 H6 s6 => AR.big e1 e2 (.inl h8) H6 (s24.trans (s5.trans s6))⟩⟩
          have s56 := s5.trans s6
          refine ⟨_, rfl, _, rfl, a2, a1, lo ++ lb, ga ++ gb, rfl, s56 _ _ h2, s56 _ _ h1, by rw [List.length_append]; omega, f2, fun H7 s7 => ⟨fun h9 H8 x8 d8 t8 s8 O8 => ?_, fun h9 H8 s8 => AR.big e1 e2 (.inr h9) H8 (s24.trans (s56.trans (s7.trans s8)))⟩⟩
          have s78 := s7.trans s8
          exact note_new ⟨d6, t6, O6.same s78⟩ ⟨d8, t8, O8⟩ apart_without fun x H9 s9 N9 => AR.ok e1 e2 h8 h9 x H9 (s24.trans (s56.trans (s78.trans s9))) N9
    · exact ⟨_, rfl, v, .ref (gNo K), _, _, false, rfl, .own _, ty, kt, false, rfl, if_posB rfl (mkb1 bd)⟩
end
end K7
set_option Elab.async false
set_option linter.all false
set_option maxRecDepth 100000
set_option maxHeartbeats 1000000
/-! Note.__str__. -/
namespace K7
open PySem PySem.Spec PyProof.Rows L2 RV EV He EF EI
def plus (c z : Str) : Str := (Str.empty ++ c) ++ z
def toldL (ga lo : List Str) : List Str := ga.map (plus "+") ++ lo.map (plus "-")
def noteText (ga lo : List Str) : Str := if toldL ga lo = [] then "-" else Txt.join " " (toldL ga lo)
abbrev scNs_N : List Str := ["self", "told", "fix"]
theorem scNs : FnScope scNs_N ["self"] (defScope (nSt 2)) := ⟨rfl, rfl, rfl, by decide +kernel, rfl, by decide +kernel, by decide +kernel⟩
def spStN (K : PySem.W.Frag) : Sp := fun vs H Q _ => ∃ p ga lo, vs = [.ref p] ∧ IsNote K H p ga lo ∧ ∀ H', Same H H' → Q (.str (noteText ga lo)) H'
abbrev tPl (c : Str) : TE := fun σ H Q => tJs [tC (V.str c), tFmt (tVar 2)] Str.empty σ H fun out H1 => Q (.str out) H1
theorem plus_len {c z : Str} (hc : c.length = 1) (hz : z.length ≤ 8) : (plus c z).length ≤ 9 := by
  unfold plus
  rw [strLen_append, strLen_append, hc]
  have : (Str.empty).length = 0 := rfl
  omega
section
variable {P : Program} {w : World} {K : PySem.W.Frag} {mg : Str → Option Value} {base : Heap}
theorem pl_read {σ : L2.St} {H : Hp} {Q : VK} {c z : Str} (hc : c.length = 1) (hz : z.length ≤ 8) (hs : σ[2]? = some (some (.str z))) (k : Q (.str (plus c z)) H) : tPl c σ H Q := by
  have h9 := plus_len (c := c) hc hz
  refine ⟨c, rfl, ?_, _, hs, .inl ⟨z, rfl, by rw [sizeLine_eq]; omega, z, rfl, ?_, k⟩⟩
  · rw [strLen_append, hc, sizeLine_eq]
    show 0 + 1 ≤ _
    omega
  · show (plus c z).length ≤ _
    rw [sizeLine_eq]
    omega
theorem pc_read {X : Cx} (T : KF X.prog X.w X.K X.mg X.base) {σ : L2.St} {H : Hp} {Q : VK} {ti : TE} {g : Addr} {ns : List Str} {c : Str} (hc : c.length = 1) (hg : IsLot X.K H g ns) (h1 : ∀ R : VK, R (.ref g) H → ti σ H R)
    (hs : ∀ z : Str, ((wipe σ [2]).set 2 (some (V.str z)))[2]? = some (some (.str z))) (hw : ∀ v, wipe ((wipe σ [2]).set 2 (some v)) [2] = wipe σ [2])
    (k : ∀ D H', Same H H' → H' D = some (.lst ((ns.map (plus c)).map V.str)) → Q (.ref D) H') : tLc (iLot X ti) (gName 2) tYes (tPl c) [2] σ H Q := by
  obtain ⟨dg, tg, G⟩ := hg
  refine h1 _ ⟨g, dg, _, tg, _, rfl, G.ob, SqT.of G.ps, gives_iterL T G, fun D nD => ?_⟩
  have le8 := G.le
  refine lct (K := X.K) (a := tg) (σ := σ) (i := 2) (tt := tYes) (te := tPl c) (p := fun _ => true) (enc := V.str) (out := fun x => V.str (plus c x)) (ns := ns) (fun H' s => SqT.of (s _ _ G.ps)) ⟨nD, by omega, hw, fun z _ H' F s q => tests_yes (z := z) q, fun z hm _ H' F s q => ?_, fun H2 s2 hD => ?_⟩
  · exact pl_read hc (fix_len (G.fx z hm)) (hs z) (q _ fun _ _ e => e)
  · rw [all_yes] at hD
    refine k D H2 s2 ?_
    rw [hD, List.map_map]
    rfl
theorem ok_noStr (T : KF P w K mg base) {fd : FuncData} (F : FunD K "__str__" "Note.__str__" (defArgs (nSt 2)) (defBody (nSt 2)) (defScope (nSt 2)) [] [] (ma K (gNo K) "__str__") fd) : FnOk P w K mg base CX0 3 (ma K (gNo K) "__str__") fd ["self"] (spStN K) := by
  refine F.ok scNs (fun vs H Q E h => ?_) (fun cdv A outer s H vs Q E hr h => ?_)
  · obtain ⟨p, ga, lo, rfl, _⟩ := h
    rfl
  · obtain ⟨p, ga, lo, rfl, ⟨dx, g, l, N⟩, k⟩ := h
    refine ⟨_, PSs.nox (pss_cons (ps_set (i := 1) scNs.nd rfl (.inl rfl) (pe_lst (StX.pa_star (pe_lc (own := [("fix", 2)]) (g := gName 2) (tt := tYes) (te := tPl "+") rfl scNs.nd
          (Ow.pi_own (k := 1) (pe_fld (pv 0) rfl) (lm T ("__iter__", 8) (by decide)).at_ (lm T ("__iter__", 8) (by decide)).fn (hr.mono (by decide))) (blkOk_by (N := scNs_N) (sc := defScope (nSt 2)) (by decide +kernel)) (fun _ _ _ _ _ => pg_name (i := 2) scNs.nd rfl (.inl rfl)) (fun _ _ _ _ _ => pts_nil)
          (fun _ _ _ _ _ => pe_joined (.cons pe_str (.cons (pe_fmt (pv 2)) .nil))))
        (StX.pa_star (pe_lc (own := [("fix", 2)]) (g := gName 2) (tt := tYes) (te := tPl "-") rfl scNs.nd
          (Ow.pi_own (k := 1) (pe_fld (pv 0) rfl) (lm T ("__iter__", 8) (by decide)).at_ (lm T ("__iter__", 8) (by decide)).fn (hr.mono (by decide))) (blkOk_by (N := scNs_N) (sc := defScope (nSt 2)) (by decide +kernel)) (fun _ _ _ _ _ => pg_name (i := 2) scNs.nd rfl (.inl rfl)) (fun _ _ _ _ _ => pts_nil)
          (fun _ _ _ _ _ => pe_joined (.cons pe_str (.cons (pe_fmt (pv 2)) .nil)))) pa_nil))))
      (pss_cons (ps_if (pt_not (pt_truth (pv 1) (fun _ => rfl))) (pss_one (ps_ret pe_str)) pss_nil) (pss_one (ps_ret (pe_join pe_str (pv 1)))))), ?_⟩
    unfold tSeq tAsg tLst StX.tStar
    refine pc_read (X := (cxOf CX0 P w K mg base scNs_N "Note.__str__" (defScope (nSt 2)) (ma K (gNo K) "__str__") cdv A outer s H E).nox) (ti := tFld K (tVar 0) "gained") T (by decide +kernel) N.g (fun R r => ⟨_, rfl, p, gNo K, dx, _, _, rfl, N.ob, cls_note T, T.noGa, rfl, r⟩) (fun _ => rfl) (fun _ => rfl) fun D1 H1 s1 h1 => ?_
    refine ⟨D1, _, rfl, .inr (SqL.of h1), ?_⟩
    have N1 := N.same s1
    refine pc_read (X := (cxOf CX0 P w K mg base scNs_N "Note.__str__" (defScope (nSt 2)) (ma K (gNo K) "__str__") cdv A outer s H E).nox) (ti := tFld K (tVar 0) "lost") T (by decide +kernel) N1.l (fun R r => ⟨_, rfl, p, gNo K, dx, _, _, rfl, N1.ob, cls_note T, T.noLs, rfl, r⟩) (fun _ => rfl) (fun _ => rfl) fun D2 H2 s2 h2 => ?_
    obtain ⟨_, _, G⟩ := N.g
    obtain ⟨_, _, L⟩ := N.l
    have z1 := G.le
    have z2 := L.le
    refine ⟨D2, _, rfl, .inr (SqL.of h2), ?_, fun l1 n1 => ?_⟩
    · rw [List.append_nil, List.length_append, List.length_map, List.length_map, List.length_map, List.length_map, sizeLine_eq]
      omega
    have s3 := same_new (o := .lst ((ga.map (plus "+")).map V.str ++ ((lo.map (plus "-")).map V.str ++ []))) n1
    have hl : (upd H2 l1 (.lst ((ga.map (plus "+")).map V.str ++ ((lo.map (plus "-")).map V.str ++ [])))) l1 = some (.lst ((toldL ga lo).map V.str)) := by
      rw [upd_same, List.append_nil, ← List.map_append]
      rfl
    have sA := s1.trans (s2.trans s3)
    have k := k _ sA
    unfold noteText at k
    refine ⟨_, rfl, !((toldL ga lo).map V.str).isEmpty, .inl ⟨_, SqL.of hl, rfl⟩, ?_⟩
    by_cases e : toldL ga lo = []
    · rw [if_pos e] at k
      exact if_posB (by rw [e]; rfl) k
    · rw [if_neg e] at k
      refine if_negB ?_ ⟨⟨_, rfl⟩, _, rfl, " ", l1, toldL ga lo, rfl, rfl, .inl (SqL.of hl), ?_, k⟩
      · cases e2 : toldL ga lo with
        | nil => exact absurd e2 e
        | cons x r => rfl
      · have b9 : ∀ x ∈ toldL ga lo, x.length ≤ 9 := fun x hx => by
          rcases List.mem_append.mp hx with hx | hx
          · obtain ⟨z, hz, rfl⟩ := List.mem_map.mp hx
            exact plus_len (by decide +kernel) (fix_len (G.fx z hz))
          · obtain ⟨z, hz, rfl⟩ := List.mem_map.mp hx
            exact plus_len (by decide +kernel) (fix_len (L.fx z hz))
        have b16 : (toldL ga lo).length ≤ 16 := by
          unfold toldL
          rw [List.length_append, List.length_map, List.length_map]
          omega
        have sm : ∀ ns : List Str, (∀ x ∈ ns, x.length ≤ 9) → (ns.map fun x => x.length).sum ≤ ns.length * 9 := by
          intro ns
          induction ns with
          | nil => intro _; exact Nat.le_refl _
          | cons x r ih =>
            intro h
            have q1 := h x List.mem_cons_self
            have q2 := ih fun y hy => h y (List.mem_cons_of_mem _ hy)
            rw [List.map_cons, List.sum_cons, List.length_cons]
            omega
        have q := sm _ b9
        rw [one_]
        omega
end
end K7
set_option Elab.async false
set_option linter.all false
set_option maxRecDepth 100000
set_option maxHeartbeats 1000000
/-! Notes and their texts: no Python here. -/
namespace K7
open PySem PySem.Spec PyProof.Rows L2 RV EV He EF EI
abbrev tlS (w : Str) : Str := cutS w (some 1) none
abbrev hdS (w : Str) : Str := cutS w none (some 1)
theorem cps_tl (w : Str) : (tlS w).cps.toList = w.cps.toList.drop 1 := by
  show (((w.cps.toList.drop (HT.sIx w.length 0 (some 1))).take (HT.sIx w.length w.length none - HT.sIx w.length 0 (some 1))).toArray).toList = _
  rw [List.toList_toArray, show (some (1 : Int)) = some ((1 : Nat) : Int) from rfl, HT.sIx_nat, HT.sIx_none]
  have e : w.length = w.cps.toList.length := by rw [Array.length_toList]; rfl
  rw [e]
  cases w.cps.toList with
  | nil => rfl
  | cons c r => simp
theorem cps_hd (w : Str) : (hdS w).cps.toList = w.cps.toList.take 1 := by
  show (((w.cps.toList.drop (HT.sIx w.length 0 none)).take (HT.sIx w.length w.length (some 1) - HT.sIx w.length 0 none)).toArray).toList = _
  rw [List.toList_toArray, show (some (1 : Int)) = some ((1 : Nat) : Int) from rfl, HT.sIx_nat, HT.sIx_none]
  have e : w.length = w.cps.toList.length := by rw [Array.length_toList]; rfl
  rw [e]
  cases w.cps.toList with
  | nil => rfl
  | cons c r => simp
theorem len_tlS (w : Str) : (tlS w).length ≤ w.length := by
  have e : (tlS w).length = (tlS w).cps.toList.length := by rw [Array.length_toList]; rfl
  have e2 : w.length = w.cps.toList.length := by rw [Array.length_toList]; rfl
  rw [e, e2, cps_tl, List.length_drop]
  omega
theorem starts_one (w : Str) (c : Nat) : Txt.startswith w ⟨#[c]⟩ = decide (hdS w = ⟨#[c]⟩) := by
  have e1 : (hdS w = (⟨#[c]⟩ : Str)) ↔ w.cps.toList.take 1 = [c] := by
    constructor
    · intro h
      rw [← cps_hd, h]
    · intro h
      refine ext_toList ?_
      rw [cps_hd, h]
  unfold Txt.startswith Builtin.Str.subAt
  have l1 : (⟨#[c]⟩ : Str).length = 1 := rfl
  rw [l1, Nat.zero_add]
  have e2 : w.length = w.cps.toList.length := by rw [Array.length_toList]; rfl
  have e3 : (w.cps.extract 0 1 == (⟨#[c]⟩ : Str).cps) = decide (w.cps.toList.take 1 = [c]) := by
    have : (w.cps.extract 0 1 = #[c]) ↔ w.cps.toList.take 1 = [c] := by
      constructor
      · intro h
        have := congrArg Array.toList h
        simpa using this
      · intro h
        refine Array.ext' ?_
        simpa using h
    rw [Bool.eq_iff_iff, beq_iff_eq, decide_eq_true_iff]
    exact this
  rw [e3, decide_eq_decide.mpr e1]
  have key : ∀ L : List Nat, (decide (1 ≤ L.length) && decide (L.take 1 = [c])) = decide (L.take 1 = [c]) := fun L => by
    cases L with
    | nil => simp
    | cons x r => simp
  rw [e2]
  exact key _
theorem glue_hd {w : Str} {c : Nat} (h : hdS w = ⟨#[c]⟩) : plus ⟨#[c]⟩ (tlS w) = w := by
  refine ext_toList ?_
  have h1 : w.cps.toList.take 1 = [c] := by rw [← cps_hd, h]
  show (((Str.empty ++ (⟨#[c]⟩ : Str)) ++ tlS w) : Str).cps.toList = _
  have e : (((Str.empty ++ (⟨#[c]⟩ : Str)) ++ tlS w) : Str).cps.toList = [c] ++ (tlS w).cps.toList := by
    show ((#[] ++ #[c]) ++ (tlS w).cps).toList = _
    rw [Array.toList_append]
    rfl
  rw [e, cps_tl, ← h1, List.take_append_drop]
abbrev plusB (w : Str) : Bool := Txt.startswith w "+"
abbrev minusB (w : Str) : Bool := Txt.startswith w "-"
theorem plus_hd (w : Str) : plusB w = decide (hdS w = "+") := starts_one w 43
theorem minus_hd (w : Str) : minusB w = decide (hdS w = "-") := starts_one w 45
theorem not_both {w : Str} (h : plusB w = true) : minusB w = false := by
  rw [plus_hd] at h
  rw [minus_hd, of_decide_eq_true h]
  decide +kernel
def lastS (xs : List Str) : Str := xs.getLastD ""
/-- whether a word can stand -/
def canB (g l : List Str) (w : Str) : Bool :=
  isFixB (tlS w) && (if plusB w then l.isEmpty && (decide (g.length < 8) && (g.isEmpty || decide (LtS (lastS g) (tlS w))))
    else (minusB w && !decide (tlS w ∈ g)) && (decide (l.length < 8) && (l.isEmpty || decide (LtS (lastS l) (tlS w)))))
/-- what the words of a text say: a note, or the first one that cannot stand -/
def goR : List Str → List Str → List Str → Nat → Sum (List Str × List Str) Nat
  | [], g, l, _ => .inl (g, l)
  | w :: r, g, l, i => if canB g l w = true then (if plusB w = true then goR r (g ++ [tlS w]) l (i + 1) else goR r g (l ++ [tlS w]) (i + 1)) else .inr i
def readF (ws : List Str) : Sum (List Str × List Str) Nat := if ws.getD 0 "" = "-" then (if 1 < ws.length then .inr 1 else .inl ([], [])) else goR ws [] [] 0
/-- what is read so far -/
structure GL (g l : List Str) : Prop where
  ag : Asc g
  al : Asc l
  fg : ∀ x ∈ g, isFixB x = true
  fl : ∀ x ∈ l, isFixB x = true
  lg : g.length ≤ 8
  ll : l.length ≤ 8
  ap : apartB g l = true
theorem gl_nil : GL [] [] := ⟨List.Pairwise.nil, List.Pairwise.nil, (fun _ h => nomatch h), (fun _ h => nomatch h), by decide, by decide, rfl⟩
theorem last_mem {xs : List Str} (h : xs ≠ []) : lastS xs ∈ xs := by
  rcases List.eq_nil_or_concat xs with rfl | ⟨ys, z, rfl⟩
  · exact absurd rfl h
  · unfold lastS
    simp
theorem asc_snoc {xs : List Str} {x : Str} (h : Asc xs) (k : xs = [] ∨ LtS (lastS xs) x) : Asc (xs ++ [x]) := by
  rcases List.eq_nil_or_concat xs with rfl | ⟨ys, z, rfl⟩
  · simp
  · have hz : LtS z x := by
      rcases k with k | k
      · simp at k
      · unfold lastS at k
        simpa using k
    rw [List.concat_eq_append] at h ⊢
    refine List.pairwise_append.mpr ⟨h, by simp, fun a ha b hb => ?_⟩
    rw [List.mem_singleton.mp hb]
    rcases List.mem_append.mp ha with ha | ha
    · exact lt_tr ((List.pairwise_append.mp h).2.2 a ha z (by simp)) hz
    · rw [List.mem_singleton.mp ha]
      exact hz
theorem gl_plus {g l : List Str} {w : Str} (G : GL g l) (c : canB g l w = true) (p : plusB w = true) : GL (g ++ [tlS w]) l ∧ l = [] := by
  unfold canB at c
  rw [p, if_pos rfl] at c
  obtain ⟨c1, c⟩ := Bool.and_eq_true_iff.mp c
  obtain ⟨c2, c⟩ := Bool.and_eq_true_iff.mp c
  obtain ⟨c3, c4⟩ := Bool.and_eq_true_iff.mp c
  have l0 : l = [] := List.isEmpty_iff.mp c2
  have g8 := of_decide_eq_true c3
  refine ⟨⟨asc_snoc G.ag ?_, G.al, fun x hx => ?_, G.fl, by rw [List.length_append]; simp; omega, G.ll, ?_⟩, l0⟩
  · rcases Bool.or_eq_true_iff.mp c4 with h | h
    · exact .inl (List.isEmpty_iff.mp h)
    · exact .inr (of_decide_eq_true h)
  · rcases List.mem_append.mp hx with h | h
    · exact G.fg x h
    · rw [List.mem_singleton.mp h]
      exact c1
  · rw [l0, apart_iff]
    exact fun x _ h => nomatch h
theorem gl_minus {g l : List Str} {w : Str} (G : GL g l) (c : canB g l w = true) (p : plusB w = false) : GL g (l ++ [tlS w]) ∧ minusB w = true := by
  unfold canB at c
  rw [p, if_neg Bool.false_ne_true] at c
  obtain ⟨c1, c⟩ := Bool.and_eq_true_iff.mp c
  obtain ⟨c2, c⟩ := Bool.and_eq_true_iff.mp c
  obtain ⟨m, ni⟩ := Bool.and_eq_true_iff.mp c2
  obtain ⟨c3, c4⟩ := Bool.and_eq_true_iff.mp c
  have l8 := of_decide_eq_true c3
  have hn : tlS w ∉ g := of_decide_eq_false (Bool.not_eq_true' _ ▸ ni)
  refine ⟨⟨G.ag, asc_snoc G.al ?_, G.fg, fun x hx => ?_, G.lg, by rw [List.length_append]; simp; omega, ?_⟩, m⟩
  · rcases Bool.or_eq_true_iff.mp c4 with h | h
    · exact .inl (List.isEmpty_iff.mp h)
    · exact .inr (of_decide_eq_true h)
  · rcases List.mem_append.mp hx with h | h
    · exact G.fl x h
    · rw [List.mem_singleton.mp h]
      exact c1
  · rw [apart_iff]
    intro x hx hy
    rcases List.mem_append.mp hy with h | h
    · exact (apart_iff.mp G.ap) x hx h
    · rw [List.mem_singleton.mp h] at hx
      exact hn hx
theorem goR_ok : ∀ {ws : List Str} {g l : List Str} {i : Nat} {g' l' : List Str}, GL g l → goR ws g l i = .inl (g', l') → GL g' l' ∧ toldL g' l' = toldL g l ++ ws
  | [], g, l, i, g', l', G, h => by
    unfold goR at h
    cases h
    exact ⟨G, (List.append_nil _).symm⟩
  | w :: r, g, l, i, g', l', G, h => by
    unfold goR at h
    by_cases c : canB g l w = true
    · rw [if_pos c] at h
      cases p : plusB w with
      | true =>
        rw [p, if_pos rfl] at h
        obtain ⟨G2, l0⟩ := gl_plus G c p
        obtain ⟨G3, e⟩ := goR_ok G2 h
        refine ⟨G3, e.trans ?_⟩
        rw [l0]
        have hw := glue_hd (of_decide_eq_true ((plus_hd w).symm.trans p))
        unfold toldL
        rw [List.map_append, List.map_cons, List.map_nil, List.map_nil, List.append_nil, List.append_nil, List.append_assoc, show plus "+" (tlS w) = w from hw]
        rfl
      | false =>
        rw [p, if_neg Bool.false_ne_true] at h
        obtain ⟨G2, m⟩ := gl_minus G c p
        obtain ⟨G3, e⟩ := goR_ok G2 h
        refine ⟨G3, e.trans ?_⟩
        have hw := glue_hd (of_decide_eq_true ((minus_hd w).symm.trans m))
        unfold toldL
        rw [List.map_append, List.map_cons, List.map_nil, show plus "-" (tlS w) = w from hw, ← List.append_assoc, List.append_assoc]
        rfl
    · rw [if_neg c] at h
      cases h
theorem join_words (z : Str) : Txt.join " " (Txt.split z " ") = z := by
  rw [TL.join_eq]
  exact PySem.StrLaws.join_split z " "
theorem spl_some {S : List Nat} : ∀ (L : List Nat) (k : Nat) (acc : List Nat), TL.spl S k acc L ≠ []
  | [], k, acc => by unfold TL.spl; simp
  | c :: r, 0, acc => by
    unfold TL.spl
    split
    · simp
    · exact spl_some r 0 _
  | _ :: r, k + 1, acc => by
    unfold TL.spl
    exact spl_some r k acc
theorem split_some (z : Str) : Txt.split z " " ≠ [] := by
  intro h
  have h2 := TL.split_spl z " " (by decide +kernel) (TL.kind_ok (by decide +kernel))
  rw [h] at h2
  exact spl_some _ _ _ h2.symm
theorem readF_ok {z : Str} {g l : List Str} (h : readF (Txt.split z " ") = .inl (g, l)) : GL g l ∧ noteText g l = z := by
  have hj := join_words z
  have hn := split_some z
  unfold readF at h
  by_cases e : (Txt.split z " ").getD 0 "" = "-"
  · rw [if_pos e] at h
    by_cases c : 1 < (Txt.split z " ").length
    · rw [if_pos c] at h
      cases h
    · rw [if_neg c] at h
      cases h
      refine ⟨gl_nil, ?_⟩
      match hs : Txt.split z " ", hn, e, c with
      | [x], _, e, _ =>
        rw [hs] at hj
        have e : x = "-" := e
        rw [e] at hj
        rw [← hj]
        decide +kernel
      | _ :: _ :: _, _, _, c => simp at c
  · rw [if_neg e] at h
    obtain ⟨G, t⟩ := goR_ok gl_nil h
    refine ⟨G, ?_⟩
    have t : toldL g l = Txt.split z " " := t
    unfold noteText
    rw [t, if_neg hn, hj]
end K7
set_option Elab.async false
set_option linter.all false
set_option maxRecDepth 100000
set_option maxHeartbeats 1000000
/-! The operators of notes, as a caller has them. -/
namespace K7
open PySem PySem.Spec PyProof.Rows L2 RV EV He EF EI
section
variable {P : Program} {w : World} {K : PySem.W.Frag} {mg : Str → Option Value} {base : Heap}
abbrev nAd (K : PySem.W.Frag) (m : Str) : Addr := ma K (gNo K) m
theorem noteF (T : KF P w K mg base) : lotB1 K (gNo K) = true ∧ (∀ t ∈ besT, PySem.W.subIn K (.type t) (.ref (gNo K)) = some false) ∧ (∀ m ∈ lackN, PySem.W.findIn K (.ref (gNo K)) m = some none) ∧ PySem.W.findIn K (.ref (gNo K)) "__ne__" = some (some (.builtin "object.__ne__")) := by
  have z := (rB T).1
  unfold noteB at z
  obtain ⟨z1, z⟩ := ba z
  obtain ⟨z2, z⟩ := ba z
  obtain ⟨z3, z4⟩ := ba z
  exact ⟨z1, fun t h => of_decide_eq_true (List.all_eq_true.mp z2 t h), fun m h => eqO_ok (List.all_eq_true.mp z3 m h), eqO_ok z4⟩
theorem opc_add (T : KF P w K mg base) : Oo.OpC K (gNo K) (nAd K "__add__") "add" := by
  obtain ⟨z1, z2, z3, _⟩ := noteF T
  obtain ⟨_, h⟩ := ba z1
  obtain ⟨_, h⟩ := ba h
  obtain ⟨h3, h⟩ := ba h
  obtain ⟨_, h5⟩ := ba h
  exact ⟨nm T ("__add__", 6) (by decide), h3, h5, z3 "__radd__" (by decide), z3 "__iadd__" (by decide), fun t ht => z2 t ht⟩
theorem r_add (T : KF P w K mg base) : FnR P w K mg base (L2.CX P w) 9 (nAd K "__add__") (spAdd K) := by
  obtain ⟨_, fd, F⟩ := T.note ("__add__", 6) (by decide)
  exact Oo.FnOk.r0 (ok_add T F) (FunD.bindsN F fun _ _ _ _ _ _ us hl => match us, hl with | [_, _], _ => rfl)
theorem r_neg (T : KF P w K mg base) : FnR P w K mg base (L2.CX P w) 6 (nAd K "__neg__") (spNeg K) := by
  obtain ⟨_, fd, F⟩ := T.note ("__neg__", 5) (by decide)
  exact Oo.FnOk.r0 (ok_neg T F) (FunD.bindsN F fun _ _ _ _ _ _ us hl => match us, hl with | [_], _ => rfl)
theorem r_noEq (T : KF P w K mg base) : FnR P w K mg base CX0 2 (nAd K "__eq__") (spEqN K) := by
  obtain ⟨_, fd, F⟩ := T.note ("__eq__", 3) (by decide)
  exact Oo.FnOk.r0 (ok_noEq T F) (FunD.bindsN F fun _ _ _ _ _ _ us hl => match us, hl with | [_, _], _ => rfl)
/-- a lot may stand behind the sign -/
theorem add_lot (T : KF P w K mg base) : Oo.okAdd K (gNo K) (.ref (gO K)) := by
  have z : relB K = true := T.relb
  unfold relB at z
  obtain ⟨_, z⟩ := ba z
  obtain ⟨_, z⟩ := ba z
  obtain ⟨_, z⟩ := ba z
  obtain ⟨_, z⟩ := ba z
  have z := (ba (ba z).2).2
  have ne : gNo K ≠ gO K := fun e => by
    have h1 := (kits T).nn
    have h2 := (kits T).ln
    rw [← e] at h2
    rw [h1] at h2
    exact absurd h2 (by decide)
  exact .inr (.inr ⟨gO K, rfl, ne, mroF T, eqO_ok (List.all_eq_true.mp z "__add__" (by decide)), eqO_ok (List.all_eq_true.mp z "__radd__" (by decide))⟩)
end
end K7
set_option Elab.async false
set_option linter.all false
set_option maxRecDepth 100000
set_option maxHeartbeats 1000000
/-! Notes of rows add up: no Python here. -/
namespace K7
open PySem PySem.Spec PyProof.Rows
/-- what is gained on the way from a to c by b -/
theorem tel_gain {a b c : List Str} (hc : Asc c) : lined (without (sift b a false ++ sift c b false) (sift a b false ++ sift b c false)) = sift c a false := by
  refine asc_uniq (asc_lined _) (asc_sift hc) fun x => ?_
  rw [mem_lined, mem_without, List.mem_append, List.mem_append, mem_sift, mem_sift, mem_sift, mem_sift, mem_sift]
  by_cases h1 : x ∈ a <;> by_cases h2 : x ∈ b <;> by_cases h3 : x ∈ c <;> simp [h1, h2, h3]
/-- and lost -/
theorem tel_lost {a b c : List Str} (ha : Asc a) : lined (without (sift a b false ++ sift b c false) (sift b a false ++ sift c b false)) = sift a c false := by
  refine asc_uniq (asc_lined _) (asc_sift ha) fun x => ?_
  rw [mem_lined, mem_without, List.mem_append, List.mem_append, mem_sift, mem_sift, mem_sift, mem_sift, mem_sift]
  by_cases h1 : x ∈ a <;> by_cases h2 : x ∈ b <;> by_cases h3 : x ∈ c <;> simp [h1, h2, h3]
theorem tel_apart1 {a b c : List Str} : apartB (sift b a false) (sift c b false) = true := by
  rw [apart_iff]
  intro x hx hy
  exact (mem_sift.mp hy).2 (mem_sift.mp hx).1
theorem tel_apart2 {a b c : List Str} : apartB (sift a b false) (sift b c false) = true := by
  rw [apart_iff]
  intro x hx hy
  exact (mem_sift.mp hx).2 (mem_sift.mp hy).1
theorem sift_self {a : List Str} : sift a a false = [] := by
  unfold sift
  rw [List.filter_eq_nil_iff]
  intro x hx
  simp [hx]
theorem sift_le {a b : List Str} (h : a.length ≤ 8) : (sift a b false).length ≤ 8 := Nat.le_trans (List.length_filter_le _ _) h
/-- a note and the way back -/
theorem back_gain {g l : List Str} (h : apartB g l = true) : lined (without (g ++ l) (l ++ g)) = [] := by
  have e : without (g ++ l) (l ++ g) = [] := by
    unfold without
    rw [List.filter_eq_nil_iff]
    intro x hx
    have : x ∈ l ++ g := by
      rcases List.mem_append.mp hx with q | q
      · exact List.mem_append_right _ q
      · exact List.mem_append_left _ q
    simp [this]
  rw [e]
  rfl
end K7
set_option Elab.async false
set_option linter.all false
set_option maxRecDepth 100000
set_option maxHeartbeats 1000000
/-! Calls by keywords alone: f(k = v, ..), o.m(k = v, ..), C(k = v, ..). -/
namespace Kw
open PySem PySem.Spec PyProof.Rows L2
/-- some places of a list, in order -/
def sel {α : Type} (perm : List Nat) (l : List α) : List α := perm.filterMap fun i => l[i]?
theorem vals_sel {zs : List V} {ws : List Value} (r : Vals zs ws) : ∀ perm : List Nat, Vals (sel perm zs) (sel perm ws)
  | [] => .nil
  | i :: perm => by
    have ih := vals_sel r perm
    unfold sel at ih ⊢
    cases e : zs[i]? with
    | none =>
      have e2 : ws[i]? = none := by
        rw [List.getElem?_eq_none_iff] at e ⊢
        rw [← r.length]
        exact e
      rw [List.filterMap_cons_none e, List.filterMap_cons_none e2]
      exact ih
    | some x =>
      obtain ⟨u, hu, ru⟩ := r.get e
      rw [List.filterMap_cons_some e, List.filterMap_cons_some hu]
      exact .cons ru ih
section
variable {X : Cx} {CX : CXT} {k : Nat} {f C : Addr} {fd : FuncData} {ps ks : List Str} {sp : Sp} {E : XK} {x m : Str} {p pos apos : Pos} {o : Expr} {kws : List Keyword} {ta : TE} {tk : TA} {perm : List Nat} {ds : List Value} {dvs : List V}
theorem run_kw {pins : List (Addr × Obj)} {σ : L2.St} {H : Hp} {s : Shared} {Q : VK} {us ws : List Value} {vs zs : List V} (F : FnOk X.prog X.w X.K X.mg X.base CX k f fd ps sp) (hr : Room k X.A) (hx : Passes CX X E)
    (b : BindsTo s fd ⟨us, ks.zip ws⟩ (ps.zip (us ++ sel perm ws))) (I : Inv X pins σ H s) (r : Vals vs us) (rz : Vals zs ws) (h : sp (vs ++ sel perm zs) H Q E) : wpAny (model X.prog X.w) X.A (call (.ref f) us (ks.zip ws)) (EP X pins σ Q) X.xe s := by
  refine wpAny_call (codeAny_mono (F.run X.A X.stack s H ⟨us, ks.zip ws⟩ (us ++ sel perm ws) (vs ++ sel perm zs) Q E hr I.env0 b (r.append (vals_sel rz perm)) h) fun z s' hz => ?_)
  match z, hz with
  | .error e, hz => exact hx pins σ H s e s' I hz
  | .ok (.ret u), hz => exact I.after hz
def tCallKw (sp : Sp) (perm : List Nat) (n : Nat) (E : XK) (tk : TA) : TE := fun σ H Q => tk σ H fun zs H1 => zs.length = n ∧ sp (sel perm zs) H1 Q E
/-- f(k = v, ..) -/
theorem pe_callKw (F : FnOk X.prog X.w X.K X.mg X.base CX k f fd ps sp) (hr : Room k X.A) (hg : Gl X x) (hm : X.mg x = some (.ref f)) (hk : PySem.W.keepIn X.K (.ref f) = true) (hb : ∀ (s : Shared) (ws : List Value), ws.length = ks.length → BindsTo s fd ⟨[], ks.zip ws⟩ (ps.zip (sel perm ws)))
    (hx : Passes CX X E) (hkw : PK X kws tk) (hall : (backToKw pos (keywordEach kws X.env)).all (·.1.isSome) = true := by rfl) (hks : (backToKw pos (keywordEach kws X.env)).filterMap (·.1) = ks := by rfl) (hdb : (x == ("__debug__" : Str)) = false := by decide)
    (hpl : ((backTo pos (starEach [] X.env)).any (·.1) || (backToKw pos (keywordEach kws X.env)).any (·.1.isNone)) = false := by rfl) : PE X (.Call (.Name x p) [] kws pos) (tCallKw sp perm ks.length E tk) := by
  refine ⟨fun pins s σ H Q I h => wpAny_Call_Name_kw (ld_glob I hg hm ?_ hdb)⟩
  refine PySem.W.callWith_KW0 (h₀ := X.base) I.ok.mod.kin hk hall (thn (hkw.run pos pins s σ H _ I h) fun ws s1 hw => ?_) hpl
  obtain ⟨zs, H1, I1, rz, hl, q⟩ := hw
  refine ⟨I1.kIn, ?_⟩
  rw [hks]
  exact run_kw (us := []) (vs := []) F hr hx (hb s1 ws (rz.length.symm.trans hl)) I1 .nil rz q
def tMethKw (C : Addr) (m : Str) (sp : Sp) (perm : List Nat) (n : Nat) (E : XK) (ta : TE) (tk : TA) : TE := fun σ H Q => ta σ H fun x H1 => ∃ a dx fs, x = .ref a ∧ H1 a = some (.ins C dx fs) ∧ fs.lookup m = none ∧ tk σ H1 fun zs H2 => zs.length = n ∧ sp (x :: sel perm zs) H2 Q E
/-- o.m(k = v, ..) -/
theorem pe_methKw {pl : Sem Bool} (he : PE X o ta) (c : Cls X.K C) (hm : Meth X.K C m f) (F : FnOk X.prog X.w X.K X.mg X.base CX k f fd ps sp) (hr : Room k X.A) (hb : ∀ (s : Shared) (u : Value) (ws : List Value), ws.length = ks.length → BindsTo s fd ⟨[u], ks.zip ws⟩ (ps.zip (u :: sel perm ws)))
    (hx : Passes CX X E) (hkw : PK X kws tk) (hall : (backToKw pos (keywordEach kws X.env)).all (·.1.isSome) = true := by rfl) (hks : (backToKw pos (keywordEach kws X.env)).filterMap (·.1) = ks := by rfl)
    (hpl : ((backTo pos (starEach [] X.env)).any (·.1) || (backToKw pos (keywordEach kws X.env)).any (·.1.isNone)) = false := by rfl)
    (ht : eval (.Call (.Attribute o m apos) [] kws pos) X.env = (do
      let u ← eval o X.env
      standAt apos.atName
      let (g, one) ← holding [u] (getMethod u m pl)
      callWith pos g one (backTo pos (starEach [] X.env)) (backToKw pos (keywordEach kws X.env))) := by rfl) : PE X (.Call (.Attribute o m apos) [] kws pos) (tMethKw C m sp perm ks.length E ta tk) := by
  refine ⟨fun pins s σ H Q I h => PySem.W.methodCall_KW (pl := pl) (thn (he.run pins s σ H _ I h) fun v s1 hv => ?_) ht⟩
  obtain ⟨x, H1, I1, rx, a, dx, fs, rfl, ea, l, q⟩ := hv
  obtain rfl : v = Value.ref a := rx
  refine getmeth_ok I1 ea c hm l (PySem.W.callWith_KW0 (first := [.ref a]) (h₀ := X.base) I.ok.mod.kin hm.kp hall (thn (hkw.run pos pins s1 σ H1 _ I1 q) fun ws s2 hw => ?_) hpl)
  obtain ⟨zs, H2, I2, rz, hl, q2⟩ := hw
  refine ⟨I2.kIn, ?_⟩
  rw [hks]
  exact run_kw (us := [.ref a]) (vs := [.ref a]) F hr hx (hb s2 (.ref a) ws (rz.length.symm.trans hl)) I2 (.cons rfl .nil) rz q2
/-- C(k = v, ..) -/
theorem pe_makeKw {g : List Value → List Value → List Value} {gV : List V → List V → List V} (M : Mk X.K C f) (F : FnOk X.prog X.w X.K X.mg X.base CX k f fd ps sp) (hr : Room (k + 1) X.A) (hg : Gl X x) (hm : X.mg x = some (.ref C)) (hb : KBn X.K fd ps 1 ks g gV) (hx : Passes CX X E) (hkw : PK X kws tk)
    (hall : (backToKw pos (keywordEach kws X.env)).all (·.1.isSome) = true := by rfl) (hks : (backToKw pos (keywordEach kws X.env)).filterMap (·.1) = ks := by rfl) (hdb : (x == ("__debug__" : Str)) = false := by decide)
    (hpl : ((backTo pos (starEach [] X.env)).any (·.1) || (backToKw pos (keywordEach kws X.env)).any (·.1.isNone)) = false := by rfl) : PE X (.Call (.Name x p) [] kws pos) (tMakeN C 0 ks.length sp gV E tNil tk) := by
  refine ⟨fun pins s σ H Q I h => wpAny_Call_Name_kw (ld_glob I hg hm ?_ hdb)⟩
  refine PySem.W.callWith_KW0 (h₀ := X.base) I.ok.mod.kin M.kp hall (thn (hkw.run pos pins s σ H _ I h) fun ws s1 hw => ?_) hpl
  obtain ⟨zs, H1, I1, rz, _, hl, q⟩ := hw
  refine ⟨I1.kIn, ?_⟩
  rw [hks]
  exact run_makeN (us := []) (vs := []) M F hr hb hx I1 .nil rz rfl hl q
end
end Kw
set_option Elab.async false
set_option linter.all false
set_option maxRecDepth 100000
set_option maxHeartbeats 1000000
/-! Rows of things, each at its address; the operators of notes, read. -/
namespace K7
open PySem PySem.Spec PyProof.Rows L2 RV EV He EF EI
/-- the i-th thing stands at the i-th address -/
def Each {α : Type} (P : Hp → Addr → α → Prop) (H : Hp) : List Addr → List α → Prop
  | [], [] => True
  | a :: as, x :: xs => P H a x ∧ Each P H as xs
  | _, _ => False
theorem Each.same {α : Type} {P : Hp → Addr → α → Prop} {H H' : Hp} (s : ∀ a x, P H a x → P H' a x) : ∀ {as : List Addr} {xs : List α}, Each P H as xs → Each P H' as xs
  | [], [], _ => trivial
  | a :: as, x :: xs, ⟨h1, h2⟩ => ⟨s _ _ h1, Each.same s h2⟩
  | [], _ :: _, h => h.elim
  | _ :: _, [], h => h.elim
theorem Each.imp {α : Type} {P P' : Hp → Addr → α → Prop} {H H' : Hp} (s : ∀ a x, P H a x → P' H' a x) : ∀ {as : List Addr} {xs : List α}, Each P H as xs → Each P' H' as xs
  | [], [], _ => trivial
  | a :: as, x :: xs, ⟨h1, h2⟩ => ⟨s _ _ h1, Each.imp s h2⟩
  | [], _ :: _, h => h.elim
  | _ :: _, [], h => h.elim
theorem yes_go {σ : L2.St} {H : Hp} {A B : Hp → Prop} (k : A H) : tYes σ H (fun b H3 => if b = true then A H3 else B H3) := by
  show if true = true then A H else B H
  rw [if_pos rfl]
  exact k
theorem Each.len {α : Type} {P : Hp → Addr → α → Prop} {H : Hp} : ∀ {as : List Addr} {xs : List α}, Each P H as xs → as.length = xs.length
  | [], [], _ => rfl
  | _ :: _, _ :: _, h => congrArg (· + 1) (Each.len h.2)
  | [], _ :: _, h => h.elim
  | _ :: _, [], h => h.elim
theorem Each.snoc {α : Type} {P : Hp → Addr → α → Prop} {H : Hp} {a : Addr} {x : α} : ∀ {as : List Addr} {xs : List α}, Each P H as xs → P H a x → Each P H (as ++ [a]) (xs ++ [x])
  | [], [], _, h => ⟨h, trivial⟩
  | _ :: _, _ :: _, h, q => ⟨h.1, Each.snoc h.2 q⟩
  | [], _ :: _, h, _ => h.elim
  | _ :: _, [], h, _ => h.elim
theorem Each.get {α : Type} {P : Hp → Addr → α → Prop} {H : Hp} : ∀ {as : List Addr} {xs : List α} {i : Nat} {x : α}, Each P H as xs → xs[i]? = some x → ∃ a, as[i]? = some a ∧ P H a x
  | a :: as, y :: ys, 0, x, h, e => ⟨a, rfl, by cases e; exact h.1⟩
  | a :: as, y :: ys, i + 1, x, h, e => Each.get (as := as) (xs := ys) (i := i) h.2 e
  | [], [], _, _, _, e => nomatch e
  | [], _ :: _, _, _, h, _ => h.elim
  | _ :: _, [], _, _, h, _ => h.elim
abbrev refs (as : List Addr) : List V := as.map V.ref
theorem refs_at {as : List Addr} {i : Nat} {a : Addr} (h : as[i]? = some a) : (refs as)[i]? = some (.ref a) := by
  rw [List.getElem?_map, h]
  rfl
abbrev RowP (H : Hp) (l : Addr) (ns : List Str) : Prop := H l = some (.lst (ns.map V.str))
abbrev RowsAt (H : Hp) (ls : List Addr) (rows : List (List Str)) : Prop := Each RowP H ls rows
abbrev RelsAt (K : PySem.W.Frag) (H : Hp) (ps : List Addr) (rows : List (List Str)) : Prop := Each (IsRel K) H ps rows
abbrev NotP (K : PySem.W.Frag) (H : Hp) (p : Addr) (q : List Str × List Str) : Prop := IsNote K H p q.1 q.2
abbrev NotesAt (K : PySem.W.Frag) (H : Hp) (ps : List Addr) (ns : List (List Str × List Str)) : Prop := Each (NotP K) H ps ns
/-- the note from a row to another -/
def stepN (a b : List Str) : List Str × List Str := (sift b a false, sift a b false)
section
variable {P : Program} {w : World} {K : PySem.W.Frag} {mg : Str → Option Value} {base : Heap} {H : Hp} {Q : VK} {E : XK} {p q : Addr} {ga lo gb lb g l : List Str}
theorem AddR.good (h1 : apartB ga gb = true) (h2 : apartB lo lb = true) (eg : lined (without (ga ++ gb) (lo ++ lb)) = g) (el : lined (without (lo ++ lb) (ga ++ gb)) = l) (g8 : g.length ≤ 8) (l8 : l.length ≤ 8)
    (k : ∀ x H', Same H H' → IsNote K H' x g l → Q (.ref x) H') : AddR K E Q ga lo gb lb H where
  un := fun z => by
    rcases z with z | z
    · rw [h1] at z; cases z
    · rw [h2] at z; cases z
  ok := fun _ _ _ _ x H' s n => k x H' s (by rw [eg, el] at n; exact n)
  big := fun _ _ z => by
    rw [eg, el] at z
    omega
theorem add_read (T : KF P w K mg base) {ok : Value → Prop} (hp : IsNote K H p ga lo) (hq : IsNote K H q gb lb) (o : ok (.ref (gNo K))) (r : AddR K E Q ga lo gb lb H) : Oo.rOwn2 K (gNo K) ok (spAdd K) E (.ref p) (.ref q) H Q := by
  have hp' := hp
  have hq' := hq
  obtain ⟨dx, _, _, N⟩ := hp'
  obtain ⟨dy, _, _, M⟩ := hq'
  exact ⟨p, dx, _, .ref (gNo K), rfl, N.ob, ty_note T M.ob, o, p, ga, lo, .ref q, rfl, hp, .inl ⟨q, gb, lb, rfl, hq, r⟩⟩
theorem neg_read (hp : IsNote K H p ga lo) (a : apartB lo ga = true) (k : ∀ x H', Same H H' → IsNote K H' x lo ga → Q (.ref x) H') : Oo.rNegO (gNo K) (spNeg K) E (.ref p) H Q := by
  have hp' := hp
  obtain ⟨dx, _, _, N⟩ := hp'
  exact ⟨p, dx, _, rfl, N.ob, p, ga, lo, rfl, hp, a, k⟩
theorem first_note (T : KF P w K mg base) : PySem.W.notFirst K (gNo K) (.ref (gNo K)) = true := by
  unfold PySem.W.notFirst
  rw [beq_self_eq_true, Bool.true_or]
theorem eqn_read (T : KF P w K mg base) (hp : IsNote K H p ga lo) (hq : IsNote K H q gb lb) (k : Q (.bl (decide (ga = gb) && decide (lo = lb))) H) : Oo.rOwn2 K (gNo K) (fun t => PySem.W.notFirst K (gNo K) t = true) (spEqN K) E (.ref p) (.ref q) H Q := by
  have hp' := hp
  have hq' := hq
  obtain ⟨dx, _, _, N⟩ := hp'
  obtain ⟨dy, _, _, M⟩ := hq'
  exact ⟨p, dx, _, .ref (gNo K), rfl, N.ob, ty_note T M.ob, first_note T, p, ga, lo, .ref q, rfl, hp, .inl ⟨q, gb, lb, rfl, hq, k⟩⟩
theorem nen_read (T : KF P w K mg base) (hp : IsNote K H p ga lo) (hq : IsNote K H q ga lo) (k : Q (.bl false) H) : Oo.rNeO K (gNo K) (spEqN K) E (.ref p) (.ref q) H Q := by
  have hp' := hp
  have hq' := hq
  obtain ⟨dx, _, _, N⟩ := hp'
  obtain ⟨dy, _, _, M⟩ := hq'
  refine ⟨p, dx, _, .ref (gNo K), rfl, N.ob, ty_note T M.ob, first_note T, p, ga, lo, .ref q, rfl, hp, .inl ⟨q, ga, lo, rfl, hq, true, ?_, k⟩⟩
  rw [decide_eq_true rfl, decide_eq_true rfl]
  rfl
end
section
variable {P : Program} {w : World} {K : PySem.W.Frag} {mg : Str → Option Value} {base : Heap}
theorem mk_num (T : KF P w K mg base) : ∃ fd, FnOk P w K mg base (L2.CX P w) 3 (ma K (gNu K) "__init__") fd ["self", "line", "at"] (spNuI K) ∧ L2.Binds K fd ["self", "line", "at"] [] ∧ Mk K (gNu K) (ma K (gNu K) "__init__") ∧ mg "Number" = some (.ref (gNu K)) := by
  obtain ⟨fd, F⟩ := T.ik ("Number", 32) (by decide)
  obtain ⟨g, _, m⟩ := T.gk ("Number", 32) (by decide)
  exact ⟨fd, ok_nuI T F, FunD.bindsN F fun _ _ _ _ _ _ us hl => match us, hl with | [_, _, _], _ => rfl, m, g⟩
theorem mk_rel (T : KF P w K mg base) : ∃ fd, FnOk P w K mg base (L2.CX P w) 3 (ma K (gRe K) "__init__") fd ["self", "number", "lot"] (spReI K) ∧ L2.Binds K fd ["self", "number", "lot"] [] ∧ Mk K (gRe K) (ma K (gRe K) "__init__") ∧ mg "Release" = some (.ref (gRe K)) := by
  obtain ⟨fd, F⟩ := T.ik ("Release", 33) (by decide)
  obtain ⟨g, _, m⟩ := T.gk ("Release", 33) (by decide)
  exact ⟨fd, ok_reI T F, FunD.bindsN F fun _ _ _ _ _ _ us hl => match us, hl with | [_, _, _], _ => rfl, m, g⟩
/-- how many levels each needs: a call of _law_fixes, of note_of by names -/
theorem kw_nof (T : KF P w K mg base) : ∃ fd, FnOk P w K mg base (L2.CX P w) 9 (ga K "note_of") fd ["release", "other"] (spNof K) ∧ L2.Binds K fd ["release", "other"] [] ∧ PySem.W.keepIn K (.ref (ga K "note_of")) = true ∧ mg "note_of" = some (.ref (ga K "note_of")) ∧
    ∀ (s : Shared) (ws : List Value), ws.length = (["other", "release"] : List Str).length → BindsTo s fd ⟨[], (["other", "release"] : List Str).zip ws⟩ ((["release", "other"] : List Str).zip (Kw.sel [1, 0] ws)) := by
  obtain ⟨fd, F, g⟩ := T.tops ("note_of", 36) (by decide)
  refine ⟨fd, ok_nof T F, FunD.bindsN F fun _ _ _ _ _ _ us hl => match us, hl with | [_, _], _ => rfl, F.kp, g, ?_⟩
  intro s ws hl
  obtain ⟨oc, od, dV, kV, doc, pm, an, cdv, ct, osl, rfl, lk, hcd, hD, hK⟩ := F.ex
  rcases hD with ⟨_, rfl⟩ | ⟨e, _⟩
  · match ws, hl with
    | [a, b], _ => exact .of_eq rfl
  · exact absurd rfl e
end
end K7
set_option Elab.async false
set_option linter.all false
set_option maxRecDepth 100000
set_option maxHeartbeats 1000000
/-! list(x): x an own object with __iter__ (a tuple's iterator) and __len__. -/
namespace Ow
open PySem PySem.Spec PyProof.Rows L2 PySem.W
/-- what list(x) asks -/
def rListO (X : Cx) (C : Addr) (k : Nat) (f : Addr) (sp : Sp) : List V → Hp → VK → Prop := fun ys H Q => ∃ a dx fs tp xs, ys = [.ref a] ∧ H a = some (.ins C dx fs) ∧ SqT X.K H tp xs ∧ xs.length ≤ 100000 ∧
  (∀ H', (∀ c o, H c = some o → H' c = some o) → sp [.ref a] H' (fun v H2 => v = .int xs.length ∧ H2 = H') E0) ∧ (∀ H', (∀ c o, H c = some o → H' c = some o) → Gives1 { X with A := X.A.in1.in1 } k f a tp H') ∧ ∀ l, H l = none → Q (.ref l) (upd H l (.lst xs))
theorem call_listT {X : Cx} {C f g : Addr} {k k2 : Nat} {fd : FuncData} {sp : Sp}
    (hc : X.calm = true) (hs : findIn X.K (.ref C) "__iter__" = some (some (.ref f))) (hf : isFn X.K (.ref f) = true) (hl : findIn X.K (.ref C) "__len__" = some (some (.ref g))) (hg : isFn X.K (.ref g) = true)
    (hr : Room (k + 6) X.A) (FL : FnOk X.prog X.w X.K X.mg X.base CX0 k2 g fd ["self"] sp) (hb : Binds X.K fd ["self"] []) (hr2 : Room (k2 + 6) X.A) : CallR X (.type "list") (rListO X C k f sp) := by
  intro pins s σ H ys us Q I rv h
  obtain ⟨a, dx, fs, tp, xs, rfl, ea, ht, hz, hsp, hit, hQ⟩ := h
  obtain ⟨u, rfl, ru⟩ := rv.one
  cases ru
  refine callType_codes (Q₁ := fun obj s₁ => obj = .ref s.heap.objs.size ∧ s₁ = { s with heap := s.heap.push { cls := .type "list", data := .seq #[] } }) PySem.F.called_list (PySem.F.typeCall_list_1 _) PySem.F.entry_list_init
    (code_list_new _ ⟨rfl, rfl⟩) fun obj s₁ h₁ => ?_
  obtain ⟨rfl, rfl⟩ := h₁
  have hS : (s.heap.push { cls := .type "list", data := .seq #[] }).get? s.heap.objs.size = some { cls := .type "list", data := .seq #[] } := Heap.get?_push_size _ rfl
  refine ⟨⟨_, hS, rfl⟩, PySem.F.args_list_init_2 _ _, ?_⟩
  have fr : H s.heap.objs.size = none := I.hok.fresh (Nat.le_refl _)
  have I1 : Inv X pins σ (upd H s.heap.objs.size (.lst [])) { s with heap := s.heap.push { cls := .type "list", data := .seq #[] } } := I.lnew (its := []) (t' := s.toks) .nil (Nat.zero_le _)
  show wpAny _ _ (do let old ← Builtin.List.listItems (.ref s.heap.objs.size); Builtin.List.listUpdate (.ref s.heap.objs.size) (fun _ => #[]); letGo old.toList.reverse; Builtin.List.listExtendWith (.ref s.heap.objs.size) (.ref a) .none) _ _ _
  refine wpAny_bind ?_
  unfold Builtin.List.listItems
  refine wpAny_bind (wpAny_seqItems hS rfl (wpAny_pure ?_))
  show wpAny _ _ (updateSeq s.heap.objs.size (fun _ => #[]) >>= fun _ => letGo (#[] : Array Value).toList.reverse >>= fun _ => Builtin.List.listExtendWith (.ref s.heap.objs.size) (.ref a) .none) _ _ _
  refine wpAny_bind (wpAny_updateSeq hS rfl ?_)
  have I2 := I1.lset (f := fun _ => #[]) (its := []) (its' := []) (ys := []) (t' := s.toks) upd_same hS rfl .nil (Nat.zero_le _)
  rw [upd_upd] at I2
  refine wpAny_bind (wpAny_letGo ?_)
  have ea1 : upd H s.heap.objs.size (.lst []) a = some (.ins C dx fs) := by rw [upd_ne (ne_of_none ea fr)]; exact ea
  have sub1 : ∀ c o, H c = some o → upd H s.heap.objs.size (.lst []) c = some o := fun c o e => by rw [upd_ne (ne_of_none e fr)]; exact e
  have neS : s.heap.objs.size ≠ a := fun e => by
    rw [e, ea] at fr
    exact nomatch fr
  obtain ⟨mA1, O1, _⟩ := ins_get I2.hok ea1
  obtain ⟨od1, J1, _⟩ := O1.look
  unfold Builtin.List.listExtendWith
  refine wpAny_bind (J1.type.here ?_)
  have h1 : (Builtin.List.listSameRef (Value.ref s.heap.objs.size) (Value.ref a) || Value.ref C == Value.type "list" || Value.ref C == Value.type "tuple") = false := by
    have e0 : Builtin.List.listSameRef (Value.ref s.heap.objs.size) (Value.ref a) = false := by simp [Builtin.List.listSameRef, neS]
    rw [e0]
    rfl
  rw [if_neg (by rw [h1]; exact Bool.false_ne_true)]
  obtain ⟨m1, hF1⟩ := I2.fr
  refine wpAny_bind (PySem.W.owit_iter hF1 I2.ok.mod.kin J1 hs hf (wpAny_call (codeAny_mono (hit _ sub1 _ I2.env0.in1.in1 (hr.mono (by omega)).in1.in1 I2.kIn) fun rs s2 hq => ?_)))
  cases rs with
  | error e => exact (show False from hq).elim
  | ok fl =>
    cases fl with
    | next => exact False.elim hq
    | brk => exact False.elim hq
    | cont => exact False.elim hq
    | ret u =>
      obtain ⟨v, H2, I2, rv, it, rfl, hn, hzz, rfl⟩ := I2.after hq
      obtain rfl : u = Value.ref it := rv
      have ho : ObjOk X.prog X.w (upd (upd H s.heap.objs.size (.lst [])) it (TuO tp it)) s2.heap it (TuO tp it) := I2.hok it _ upd_same
      have st : s2.heap.IsTupleIter it tp 0 := ho.1
      unfold PySem.W.OwitIt
      have hT : s2.TypeIs (.ref it) "tuple_iterator" := let ⟨o, e1, e2, _⟩ := st; ⟨o, e1, e2⟩
      refine wpAny_specialOf hT PySem.F.slot_tuple_iterator_next.lookup ?_
      have ea2 : (upd (upd H s.heap.objs.size (.lst [])) it (TuO tp it)) a = some (.ins C dx fs) := by rw [upd_ne (ne_of_none (sub1 _ _ ea) hn)]; exact sub1 _ _ ea
      obtain ⟨mA2, O2, _⟩ := ins_get I2.hok ea2
      obtain ⟨od2, J2, _⟩ := O2.look
      refine wpAny_bind (wpAny_holding ?_)
      unfold Builtin.List.listLengthHint
      refine wpAny_bind (wpAny_bind (J2.type.here ((looks_findIn I2.kIn hl).here ?_)))
      dsimp only
      refine wpAny_ite_split (fun h => Bool.noConfusion (show false = true from h)) fun _ => ?_
      refine wpAny_ite_split (fun _ => ?_) fun h => absurd rfl h
      refine wpAny_bind (wpAny_rule ?_)
      obtain ⟨m2, hF2⟩ := I2.fr
      have sub2 : ∀ c o, H c = some o → (upd (upd H s.heap.objs.size (.lst [])) it (TuO tp it)) c = some o := fun c o e => by rw [upd_ne (ne_of_none (sub1 _ _ e) hn)]; exact sub1 _ _ e
      refine wpAny_bind (wpAny_attempt (PySem.W.len_K hF2 I2.ok.mod.kin J2 hl hg (wpAny_call (codeAny_mono (FL.run X.A.in1.in1.in1 X.stack s2 _ ⟨[.ref a], []⟩ [.ref a] [.ref a] _ E0 (hr2.mono (by omega)).in1.in1.in1 I2.env0.in1.in1.in1 (by
        have := hb s2 [.ref a] I2.kIn rfl
        simpa using this) (.cons rfl .nil) (hsp _ sub2)) fun rs s3 hq => ?_))))
      cases rs with
      | error e => exact (show False from hq).elim
      | ok fl =>
        cases fl with
        | next => exact False.elim hq
        | brk => exact False.elim hq
        | cont => exact False.elim hq
        | ret u =>
          obtain ⟨v, H3, I3, rv, rfl, rfl⟩ := I2.after hq
          obtain ⟨t, rfl⟩ := rv
          refine ⟨⟨by omega, by omega⟩, ?_⟩
          dsimp only
          refine wpAny_bind (wpAny_pure ?_)
          dsimp only
          refine wpAny_ite_split (fun h => ?_) fun _ => wpAny_pure ?_
          · have h2 : decide ((xs.length : Int).toNat > sizeLine) = true := h
            have := of_decide_eq_true h2
            rw [sizeLine_eq] at this
            omega
          · have n0S : X.s_0.heap.get? s.heap.objs.size = none := by
              cases e : X.s_0.heap.get? s.heap.objs.size with
              | none => rfl
              | some o => exact absurd (Heap.lt_size e) (Nat.not_lt.mpr I.sz)
            have le1 : s.heap.objs.size ≤ it := Nat.le_trans (by show s.heap.objs.size ≤ ((s.heap.push _).update _ _).objs.size; rw [Heap.size_update, Heap.size_push]; exact Nat.le_succ _) hzz
            have n0I : X.s_0.heap.get? it = none := by
              cases e : X.s_0.heap.get? it with
              | none => rfl
              | some o => exact absurd (Heap.lt_size e) (Nat.not_lt.mpr (Nat.le_trans I.sz le1))
            have hnH : H it = none := I.hok.fresh le1
            have neIS : s.heap.objs.size ≠ it := fun e => by
              rw [← e, upd_same] at hn
              exact nomatch hn
            have J3 : Inv X pins σ (upd H s.heap.objs.size (.lst [])) s3 := by
              have a1 := forget I3 upd_same n0I
              rw [delH_new hn] at a1
              exact a1
            obtain ⟨zS, itS, c0, rS, lS, hc0⟩ := J3.lstM (l := s.heap.objs.size) upd_same
            cases rS
            have hoI : s3.heap.IsTupleIter it tp 0 := by
              have q : ObjOk X.prog X.w (upd (upd H s.heap.objs.size (.lst [])) it (TuO tp it)) s3.heap it (TuO tp it) := I3.hok it _ upd_same
              exact q.1
            have ht3 : SqT X.K (upd H s.heap.objs.size (.lst [])) tp xs := ht.ext sub1
            obtain ⟨its, rvs, pl, hzs⟩ := J3.tuple ht3
            have neT : tp ≠ it := fun e => by
              obtain ⟨o, e1, e2, e3⟩ := hoI
              obtain ⟨o2, f1, f2, _⟩ := (show s3.heap.IsTuple tp its.toArray from pl)
              rw [e, e1] at f1
              cases f1
              rw [e2] at f2
              exact absurd f2 (by decide)
            have neTS : tp ≠ s.heap.objs.size := fun e => by
              obtain ⟨o2, f1, f2, _⟩ := (show s3.heap.IsTuple tp its.toArray from pl)
              rw [e, hc0] at f1
              cases f1
              have f3 : Value.type "list" = Value.type "tuple" := f2
              exact absurd f3 (by decide)
            have loop : ∀ (h5 : Heap) (c : Nat) (R : Result → Shared → Prop), h5.get? s.heap.objs.size = some { cls := .type "list", data := .seq #[] c } → (∀ b o, b ≠ s.heap.objs.size → s3.heap.get? b = some o → h5.get? b = some o) →
                (∀ s', EP X pins σ Q (.ref s.heap.objs.size) s' → R (.ok (.ret .none)) s') →
                codeAny (model X.prog X.w) X.A.in1 (.builtin "list.extend.loop" ⟨[.ref s.heap.objs.size, .ref it, .none], []⟩) R { s3 with heap := h5, toks := s3.toks + 1 } := by
              intro h5 c R hS5 oth hR
              have hh : X.A.in1.in1.handled = none := J3.ok.hd hc
              refine codeAny_extend_loopS (Walks.tuple (prog := X.prog) (w := X.w) (A := X.A.in1.in1) hh it tp neT its.toArray).toS (by rw [List.size_toArray, ← rvs.length, sizeLine_eq]; omega) s.heap.objs.size (by simp [neIS, neTS.symm]) _ its.toArray.size 0 _ #[] c rfl (Nat.zero_le _)
                ⟨hoI.at fun o e => oth _ _ neIS.symm e, Heap.IsTuple.at (show s3.heap.IsTuple tp its.toArray from pl) fun o e => oth _ _ neTS e⟩ hS5 (ItemsOf.nil _) fun s' acc' c' hm hS' hacc => ?_
              have eacc : acc' = its.toArray := by
                refine Array.ext hacc.1 fun j h1 h2 => ?_
                have q : its.toArray[j]? = some acc'[j] := hacc.2 j acc'[j] (by simp [h1])
                rw [Array.getElem?_eq_getElem h2] at q
                exact (Option.some.inj q).symm
              rw [eacc] at hS'
              have mv := hm.heap
              have e1 : s'.gens = s3.gens := hm.gens
              have e2 : s'.drawn = s3.drawn := hm.drawn
              have e3 : s'.os = s3.os := hm.os
              have es : s' = { s3 with heap := s'.heap, toks := s'.toks } := by
                obtain ⟨h', g', d', t', o'⟩ := s'
                subst e1 e2 e3
                rfl
              -- first the walk's own iterator, then the list
              have eU : (s'.heap.update s.heap.objs.size fun _ => { cls := .type "list", data := .seq #[] c0 }).get? s.heap.objs.size = some { cls := .type "list", data := .seq #[] c0 } := Heap.get?_update_self (fun _ => { cls := .type "list", data := .seq #[] c0 }) hS' rfl
              have Jm : Inv X pins σ (upd H s.heap.objs.size (.lst [])) { s3 with heap := s'.heap.update s.heap.objs.size fun _ => { cls := .type "list", data := .seq #[] c0 }, toks := s'.toks } := by
                refine J3.turnedL (ch := [it]) (t' := s'.toks) (fun b o hb e => ?_) fun b hb => ?_
                · by_cases hbS : b = s.heap.objs.size
                  · subst hbS
                    rw [hc0] at e
                    cases e
                    exact eU
                  · rw [Heap.get?_update_other _ _ (Ne.symm hbS)]
                    refine mv b o (fun z => ?_) (oth b o hbS e)
                    rcases List.mem_cons.mp z with z | z
                    · exact hbS z
                    · exact hb z
                · rw [List.mem_singleton.mp hb]
                  exact I.fpOk le1 hn
              have Jf : Inv X pins σ (upd (upd H s.heap.objs.size (.lst [])) s.heap.objs.size (.lst xs)) { s3 with heap := s'.heap, toks := s'.toks } := by
                refine Jm.write (x := s.heap.objs.size) (e := s.heap.objs.size) (t' := s'.toks) (h' := s'.heap) (by rw [upd_same]; trivial) (.inl rfl) (fun b u hb e => ?_) ⟨_, hS'⟩ ⟨by rw [sizeLine_eq]; omega, its, c', rvs, hS'⟩
                rw [Heap.get?_update_other _ _ (Ne.symm hb)] at e
                exact e
              rw [upd_upd] at Jf
              rw [es]
              exact hR _ ⟨.ref s.heap.objs.size, _, Jf, rfl, hQ _ fr⟩
            have fin : ∀ s', EP X pins σ Q (.ref s.heap.objs.size) s' → wants (fun r s₂ => r = .none ∧ EP X pins σ Q (.ref s.heap.objs.size) s₂) X.xe (.ok (.ret .none)) s' := fun s' q => ⟨rfl, q⟩
            refine wpAny_ite_split (fun _ => ?_) fun _ => ?_
            · refine wpAny_bind (wpAny_rule ?_)
              unfold Builtin.List.listTouch
              refine wpAny_bind (wpAny_bind (wpAny_updateSeq hc0 rfl ?_))
              have e1 := Heap.get?_update_self (Obj.mapSeq (·.push .none)) hc0 rfl
              refine wpAny_updateSeq e1 rfl ?_
              have e2 := Heap.get?_update_self (Obj.mapSeq (·.pop)) e1 rfl
              refine wpAny_pure ⟨plainId_quiet PySem.F.plain_extend_loop _, loop _ _ _ (by rw [e2]; rfl) (fun b o hb e => ?_) fin⟩
              exact (Heap.get?_update_other _ _ hb.symm).trans ((Heap.get?_update_other _ _ hb.symm).trans e)
            · exact wpAny_pure ⟨plainId_quiet PySem.F.plain_extend_loop _, loop s3.heap c0 _ hc0 (fun _ _ _ e => e) fin⟩
end Ow
set_option Elab.async false
set_option linter.all false
set_option maxRecDepth 100000
set_option maxHeartbeats 1000000
/-! can_follow. -/
namespace K7
open PySem PySem.Spec PyProof.Rows L2 RV EV He EF EI Kw
abbrev rLenS (K : PySem.W.Frag) : List V → Hp → VK → Prop := fun xs H Q => ∃ p ys, xs = [.ref p] ∧ (SqL K H p ys ∨ SqT K H p ys) ∧ Q (.int ys.length) H
abbrev rPl : R2 := rI0 fun i j => V.int (i + j)
abbrev rMi : R2 := rI0 fun i j => V.int (i - j)
abbrev rGtI : R2 := rI0 fun i j => V.bl (decide (j < i))
abbrev rLtI : R2 := rI0 fun i j => V.bl (decide (i < j))
abbrev tM1 : TE := tUn (rU fun i => V.int (-i)) (tC (V.int 1))
theorem atI_neg {α : Type} {xs : List α} {v : α} (h : xs[xs.length - 1]? = some v) : atI xs (-1) = some v := by
  have ne : xs ≠ [] := fun e => by
    rw [e] at h
    cases h
  obtain ⟨ys, z, rfl⟩ : ∃ ys z, xs = ys ++ [z] := ⟨xs.dropLast, xs.getLast ne, (List.dropLast_concat_getLast ne).symm⟩
  rw [List.length_append, List.length_singleton, Nat.add_sub_cancel, List.getElem?_append_right (Nat.le_refl _), Nat.sub_self] at h
  cases h
  exact atI_last ys v
theorem last_at {xs : List Str} (h : xs ≠ []) : atI (xs.map V.str) (-1) = some (.str (lastS xs)) := by
  rcases List.eq_nil_or_concat xs with rfl | ⟨ys, z, rfl⟩
  · exact absurd rfl h
  · unfold lastS
    rw [List.concat_eq_append, List.map_append, List.map_cons, List.map_nil]
    have := atI_last (ys.map V.str) (V.str z)
    simpa using this
abbrev sCan : Stmt := top 38
abbrev scCan_N : List Str := ["word", "gained", "lost", "fix"]
theorem scCan : FnScope scCan_N ["word", "gained", "lost"] (defScope sCan) := ⟨rfl, rfl, rfl, by decide +kernel, rfl, by decide +kernel, by decide +kernel⟩
abbrev rGtS : R2 := fun x y H Q => ∃ i j, x = V.str i ∧ y = V.str j ∧ Q (V.bl (decide (j.cps.toList < i.cps.toList))) H
abbrev rStw : V → List V → Hp → VK → Prop := fun x xs H Q => ∃ a b, x = .str a ∧ xs = [.str b] ∧ Q (.bl (Txt.startswith a b)) H
def tRowOk (K : PySem.W.Frag) (i : Nat) : TE := tAndV (tOp rLtI (tCB (rLenS K) (tCons (tVar i) tNil)) (tMost K)) (tOrV (tNotT K (tVar i)) (tOp rGtS (tVar 3) (tOp (rIxL K) (tVar i) tM1)))
def spCan (K : PySem.W.Frag) : Sp := fun vs H Q _ => ∃ w a b gs ls, vs = [.str w, .ref a, .ref b] ∧ w.length ≤ 1000000 ∧ RowP H a gs ∧ RowP H b ls ∧ ∀ H', Same H H' → Q (.bl (canB gs ls w)) H'
section
variable {P : Program} {w : World} {K : PySem.W.Frag} {mg : Str → Option Value} {base : Heap} {f : Addr} {fd : FuncData}
theorem rowOk_read (T : KF P w K mg base) {σ : L2.St} {H : Hp} {Q : VK} {i : Nat} {a : Addr} {xs : List Str} {y : Str} (hi : σ[i]? = some (some (.ref a))) (h3 : σ[3]? = some (some (.str y))) (ha : RowP H a xs)
    (k : Q (.bl (decide (xs.length < 8) && (xs.isEmpty || decide (LtS (lastS xs) y)))) H) : tRowOk K i σ H Q := by
  refine ⟨_, hi, a, _, rfl, .inl (SqL.of ha), most_read (σ := σ) T ⟨_, 8, rfl, rfl, _, rfl, ?_⟩⟩
  rw [List.length_map]
  by_cases h : xs.length < 8
  · rw [decide_eq_true h, Bool.true_and] at k
    refine if_posB (decide_eq_true (by omega)) ⟨_, hi, !xs.isEmpty, .inl ⟨_, SqL.of ha, by cases xs <;> rfl⟩, _, rfl, ?_⟩
    rw [Bool.not_not]
    cases e : xs.isEmpty with
    | true =>
      rw [e, Bool.true_or] at k
      exact if_posB rfl k
    | false =>
      rw [e, Bool.false_or] at k
      have ne : xs ≠ [] := fun z => by rw [z] at e; cases e
      refine if_negB rfl ⟨_, h3, _, hi, 1, rfl, a, _, -1, _, rfl, rfl, SqL.of ha, last_at ne, y, lastS xs, rfl, rfl, k⟩
  · rw [decide_eq_false h, Bool.false_and] at k
    exact if_negB (decide_eq_false (by omega)) k
theorem c_isfix (T : KF P w K mg base) : Callee P w K mg base CX0 1 "is_fix" ["value"] (spFix K) := by
  obtain ⟨fd, F, g⟩ := T.tops ("is_fix", 4) (by decide)
  exact ⟨fd, ok_fix F (blt2 T), FunD.bindsN F fun _ _ _ _ _ _ us hl => match us, hl with | [_], _ => rfl, F.kp, g⟩
theorem ok_can (T : KF P w K mg base) (F : FnP K "can_follow" sCan f fd) : FnOk P w K mg base CX0 2 f fd ["word", "gained", "lost"] (spCan K) := by
  obtain ⟨fF, GF, bF, kF, gF⟩ := c_isfix (w := w) T
  refine F.ok scCan (fun vs H Q E h => ?_) (fun cdv A outer s H vs Q E hr h => ?_)
  · obtain ⟨z, a, b, gs, ls, rfl, _⟩ := h
    rfl
  · obtain ⟨z, a, b, gs, ls, rfl, hw, ha, hb, k⟩ := h
    have nd := scCan.nd
    refine ⟨_, PSs.nox (pss_cons (ps_set (i := 3) nd rfl (.inl rfl) (pe_slice sl_str (pv 0) (po_some pe_int) po_none))
      (pss_cons (ps_if (pt_not (pt_val (pe_call (E := E0) GF hr (by rfl) gF kF bF .nil pass0 (pa_cons (pv 3) pa_nil)))) (pss_one (ps_ret pe_bl)) pss_nil)
      (pss_cons (ps_if (pt_val (pe_m1 PySem.F.slot_str_startswith PySem.F.type_str_startswith mt_startswith (pv 0) pe_str))
          (pss_one (ps_ret (pe_and (pe_notT (pv 2)) (pe_and (pe_cmpR op_lt (pe_callB call_len_seq (by rfl) (T.fr "len" (by decide)) PySem.boot_len (pa_cons (pv 1) pa_nil)) (ClX.pe_cval (pe_glob (v := .ref (gO K)) (by rfl) T.go rfl)) (nomark _))
            (pe_one (pe_or (pe_notT (pv 1)) (pe_one (pe_cmpR op_gt_str (pv 3) (pe_ix ix_list (pv 1) (pe_un un_neg pe_int) (fun _ _ => rfl)) (nomark _))))))))) pss_nil)
      (pss_cons (ps_if (PW.pt (pw_or (pt_not (pt_val (pe_m1 PySem.F.slot_str_startswith PySem.F.type_str_startswith mt_startswith (pv 0) pe_str))) (pw_or1 (pt_cmpR op_in_seq (pv 3) (pv 1) rfl)))) (pss_one (ps_ret pe_bl)) pss_nil)
      (pss_one (ps_ret (pe_and (pe_cmpR op_lt (pe_callB call_len_seq (by rfl) (T.fr "len" (by decide)) PySem.boot_len (pa_cons (pv 2) pa_nil)) (ClX.pe_cval (pe_glob (v := .ref (gO K)) (by rfl) T.go rfl)) (nomark _))
            (pe_one (pe_or (pe_notT (pv 2)) (pe_one (pe_cmpR op_gt_str (pv 3) (pe_ix ix_list (pv 2) (pe_un un_neg pe_int) (fun _ _ => rfl)) (nomark _)))))))))))), ?_⟩
    have e1 : (tlS z).length ≤ 1000000 := Nat.le_trans (len_tlS z) hw
    refine ⟨_, rfl, 1, rfl, z, rfl, by rw [sizeLine_eq]; omega, ?_⟩
    refine ⟨_, rfl, ?_⟩
    unfold tNil
    show spFix K [V.str (tlS z)] H _ _
    refine ⟨_, rfl, .inl ⟨tlS z, rfl, e1, fun H1 s1 => ⟨_, rfl, ?_⟩⟩⟩
    have k1 := k H1 s1
    have ra := s1 _ _ ha
    have rb := s1 _ _ hb
    unfold canB at k1
    cases e : isFixB (tlS z) with
    | false =>
      rw [e, Bool.false_and] at k1
      exact if_posB rfl k1
    | true =>
      rw [e, Bool.true_and] at k1
      refine if_negB rfl ⟨_, rfl, ⟨_, rfl⟩, z, "+", rfl, rfl, _, rfl, ?_⟩
      cases p : plusB z with
      | true =>
        rw [p, if_pos rfl] at k1
        refine if_posB p ⟨_, rfl, !ls.isEmpty, .inl ⟨_, SqL.of rb, by cases ls <;> rfl⟩, _, rfl, ?_⟩
        rw [Bool.not_not]
        cases e2 : ls.isEmpty with
        | true =>
          rw [e2, Bool.true_and] at k1
          exact if_posB rfl (rowOk_read (i := 1) T rfl rfl ra k1)
        | false =>
          rw [e2, Bool.false_and] at k1
          exact if_negB rfl k1
      | false =>
        rw [p, if_neg Bool.false_ne_true] at k1
        refine if_negB p ⟨_, rfl, ⟨_, rfl⟩, z, "-", rfl, rfl, _, rfl, ?_⟩
        cases m : minusB z with
        | false =>
          rw [m, Bool.false_and, Bool.false_and] at k1
          exact if_posB (by rw [show Txt.startswith z "-" = false from m]; rfl) (if_posB rfl k1)
        | true =>
          rw [m, Bool.true_and] at k1
          refine if_negB (by rw [show Txt.startswith z "-" = true from m]; rfl) ⟨_, rfl, _, rfl, a, _, rfl, .inl (SqL.of ra), rfl, flat_strs gs, _, rfl, ?_⟩
          show if inV (.str (tlS z)) (gs.map V.str) = true then _ else _
          rw [inV_str]
          by_cases hn : tlS z ∈ gs
          · rw [decide_eq_true hn] at k1
            exact if_posB (decide_eq_true hn) k1
          · rw [decide_eq_false hn, Bool.not_false, Bool.true_and] at k1
            exact if_negB (decide_eq_false hn) (rowOk_read (i := 2) T rfl rfl rb k1)
end
end K7
set_option Elab.async false
set_option linter.all false
set_option maxRecDepth 100000
set_option maxHeartbeats 1000000
/-! Words: len, iter; C.m(k = v), m a static method; Note.read. -/
namespace Kw
open PySem PySem.Spec PyProof.Rows L2 PySem.W
section
variable {X : Cx} {CX : CXT} {k : Nat} {C p g : Addr} {mc : Value} {fd : FuncData} {ps ks : List Str} {sp : Sp} {E : XK} {m : Str} {pos apos : Pos} {o : Expr} {kws : List Keyword} {to : TE} {tk : TA} {perm : List Nat}
def tSMethKw (C : Addr) (sp : Sp) (perm : List Nat) (n : Nat) (E : XK) (to : TE) (tk : TA) : TE := fun σ H Q => to σ H fun x H1 => x = .ref C ∧ tk σ H1 fun zs H2 => zs.length = n ∧ sp (sel perm zs) H2 Q E
theorem pe_smethKw {pl : Sem Bool} (he : PE X o to) (r : ClX.CRead X.K C mc) (c : Oo.SMet X.K C mc m p g) (F : FnOk X.prog X.w X.K X.mg X.base CX k g fd ps sp) (hr : Room k X.A) (hb : ∀ (s : Shared) (ws : List Value), ws.length = ks.length → BindsTo s fd ⟨[], ks.zip ws⟩ (ps.zip (sel perm ws)))
    (hx : Passes CX X E) (hkw : PK X kws tk) (hall : (backToKw pos (keywordEach kws X.env)).all (·.1.isSome) = true := by rfl) (hks : (backToKw pos (keywordEach kws X.env)).filterMap (·.1) = ks := by rfl)
    (hpl : ((backTo pos (starEach [] X.env)).any (·.1) || (backToKw pos (keywordEach kws X.env)).any (·.1.isNone)) = false := by rfl)
    (ht : eval (.Call (.Attribute o m apos) [] kws pos) X.env = (do
      let u ← eval o X.env
      standAt apos.atName
      let (g, one) ← holding [u] (getMethod u m pl)
      callWith pos g one (backTo pos (starEach [] X.env)) (backToKw pos (keywordEach kws X.env))) := by rfl) : PE X (.Call (.Attribute o m apos) [] kws pos) (tSMethKw C sp perm ks.length E to tk) := by
  refine ⟨fun pins s σ H Q I h => PySem.W.methodCall_KW (pl := pl) (thn (he.run pins s σ H _ I h) fun u s1 ⟨x, H1, I1, rx, ex, q⟩ => ?_) ht⟩
  subst ex
  obtain rfl : u = Value.ref C := rx
  refine Oo.getsm_ok I1 r c fun s2 I2 => ?_
  refine PySem.W.callWith_KW0 (h₀ := X.base) I2.ok.mod.kin c.kp hall (thn (hkw.run pos pins s2 σ H1 _ I2 q) fun ws s3 hw => ?_) hpl
  obtain ⟨zs, H2, I3, rz, hl, q2⟩ := hw
  refine ⟨I3.kIn, ?_⟩
  rw [hks]
  exact run_kw (us := []) (vs := []) F hr hx (hb s3 ws (rz.length.symm.trans hl)) I3 .nil rz q2
end
end Kw
namespace K7
open PySem PySem.Spec PyProof.Rows L2 RV EV He EF EI Kw
section
variable {P : Program} {w : World} {K : PySem.W.Frag} {mg : Str → Option Value} {base : Heap}
def spLenW (K : PySem.W.Frag) : Sp := fun vs H Q _ => ∃ p dx tp ws ln t, vs = [.ref p] ∧ WO K H p dx tp ws ln t ∧ Q (.int ws.length) H
theorem scLenW : FnScope ["self"] ["self"] (defScope (wSt 2)) := ⟨rfl, rfl, rfl, by decide +kernel, rfl, by decide +kernel, by decide +kernel⟩
theorem ok_lenW (T : KF P w K mg base) {fd : FuncData} (F : FunD K "__len__" "Words.__len__" (defArgs (wSt 2)) (defBody (wSt 2)) (defScope (wSt 2)) [] [] (mAd K "__len__") fd) : FnOk P w K mg base CX0 1 (mAd K "__len__") fd ["self"] (spLenW K) := by
  refine F.ok scLenW (fun vs H Q E h => ?_) (fun cdv A outer s H vs Q E hr h => ?_)
  · obtain ⟨p, dx, tp, ws, ln, t, rfl, _⟩ := h
    rfl
  · obtain ⟨p, dx, tp, ws, ln, t, rfl, O, k⟩ := h
    refine ⟨_, PSs.nox (pss_one (ps_ret (pe_callB call_len_seq (by rfl) (T.fr "len" (by decide)) PySem.boot_len (pa_cons (pe_fld (pv 0) rfl) pa_nil)))), ?_⟩
    refine ⟨_, rfl, p, gW K, dx, _, _, rfl, O.ob, T.cl, T.noP, rfl, tp, _, rfl, .inr (SqT.of O.ps), ?_⟩
    rw [List.length_map]
    exact k
theorem scItW : FnScope ["self"] ["self"] (defScope (wSt 3)) := ⟨rfl, rfl, rfl, by decide +kernel, rfl, by decide +kernel, by decide +kernel⟩
theorem gives_iterW {X : Cx} (T : KF X.prog X.w X.K X.mg X.base) {H : Hp} {p dx tp : Addr} {ws : List Str} {ln : Int} {t : Nat} (O : WO X.K H p dx tp ws ln t) : Ow.Gives1 X 1 (mAd X.K "__iter__") p tp H := by
  obtain ⟨_, fd, F⟩ := T.meth ("__iter__", 3) (by decide)
  have b := FunD.bindsA (ps := ["self"]) F fun _ _ _ _ _ _ us hl => match us, hl with | [_], _ => rfl
  obtain ⟨oc, od, dV, kV, doc, pm, an, cdv, ct, osl, rfl, lk, hcd, hD, hK⟩ := F.ex
  intro s e0 hr hK
  refine LamX.run_ofS (N := ["self"]) (ps := ["self"]) (us := [.ref p]) (vs := [.ref p]) lk hcd scItW hr e0 (b s [.ref p] rfl) (.cons rfl .nil) rfl fun hr' => ?_
  refine ⟨_, PSs.nox (pss_one (ps_ret (pe_callB Ow.call_iterT (by rfl) (T.fr "iter" (by decide)) (by decide +kernel) (pa_cons (pe_fld (pv 0) rfl) pa_nil)))), ?_⟩
  exact ⟨_, rfl, p, _, dx, _, _, rfl, O.ob, T.cl, T.noP, rfl, tp, _, rfl, SqT.of O.ps, fun it n1 n2 => ⟨it, rfl, n1, n2, rfl⟩⟩
/-! the note without fixes -/
abbrev tNewL (K : PySem.W.Frag) : TE := fun _ H Q => Oo.wNew (gO K) (spStar (spLi K)) E0 [] H Q
theorem new_none {H : Hp} {Q : VK} (k : ∀ q H', Same H H' → IsLot K H' q [] → Q (.ref q) H') : Oo.wNew (gO K) (spStar (spLi K)) E0 [] H Q :=
  new_of (K := K) (xs := []) (MkLot.good (ss := []) (by decide) (fun _ z => nomatch z) fun H1 s1 => ⟨fun _ H2 p0 dx0 tp0 s2 O0 => k p0 H2 (s1.trans s2) ⟨dx0, tp0, O0⟩, fun h => absurd h (by decide)⟩)
theorem note_none {H : Hp} {σ : L2.St} {E : XK} {Q : VK} (k : ∀ u H', Same H H' → IsNote K H' u [] [] → Q (.ref u) H') : tMake (gNo K) (spNoI K) [] E (tCons (tNewL K) (tCons (tNewL K) tNil)) σ H Q := by
  show Oo.wNew (gO K) (spStar (spLi K)) E0 [] H (fun x H1 => Oo.wNew (gO K) (spStar (spLi K)) E0 [] H1 (fun x2 H2 => ∀ u dx, H2 u = none → H2 dx = none → dx ≠ u → spNoI K (.ref u :: ([x, x2] ++ [])) (upd (upd H2 dx (.own u)) u (.ins (gNo K) dx [])) (fun v H3 => v = .non ∧ Q (.ref u) H3) E))
  refine new_none fun q H3 s3 O3 => new_none fun q2 H4 s4 O4 => ?_
  exact note_new (O3.same s4) O4 rfl fun u H5 s5 nu => k u H5 (s3.trans (s4.trans s5)) nu
/-! Note.read -/
theorem creadN (T : KF P w K mg base) : ClX.CRead K (gNo K) (.type "type") := by
  have z : relB K = true := T.relb
  unfold relB at z
  obtain ⟨_, z⟩ := ba z
  obtain ⟨z, _⟩ := ba z
  obtain ⟨_, z⟩ := ba z
  unfold kit2B at z
  obtain ⟨_, z⟩ := ba z
  obtain ⟨_, z⟩ := ba z
  obtain ⟨_, z⟩ := ba z
  obtain ⟨_, z⟩ := ba z
  obtain ⟨h1, h2⟩ := ba z
  exact ⟨h1, eqO_ok h2⟩
abbrev aNr (K : PySem.W.Frag) : Addr := He5.wf K (gNo K) "staticmethod" "read"
theorem smetN (T : KF P w K mg base) : Oo.SMet K (gNo K) (.type "type") "read" (ma K (gNo K) "read") (aNr K) := by
  have z : relB K = true := T.relb
  unfold relB at z
  obtain ⟨_, z⟩ := ba z
  obtain ⟨_, z⟩ := ba z
  obtain ⟨_, z⟩ := ba z
  obtain ⟨_, z⟩ := ba z
  obtain ⟨h, _⟩ := ba z
  obtain ⟨h1, _⟩ := ba h
  obtain ⟨fd, F⟩ := T.frn
  exact Oo.smet_of h1 F.kp
abbrev scNr_N : List Str := ["text", "words", "gained", "lost", "at", "word"]
theorem scNr : FnScope scNr_N ["text"] (defScope (nSt 1)) := ⟨rfl, rfl, rfl, by decide +kernel, rfl, by decide +kernel, by decide +kernel⟩
def spNr (K : PySem.W.Frag) : Sp := fun vs H Q E => ∃ v, vs = [v] ∧ ((∃ z, v = .str z ∧ z.length ≤ 900 ∧ (∀ g l, readF (Txt.split z " ") = .inl (g, l) → ∀ x H', Same H H' → IsNote K H' x g l → Q (.ref x) H') ∧ (∀ i, readF (Txt.split z " ") = .inr i → ∀ H', Same H H' → BadE K H' E (.int 0) (.int (i : Nat)))) ∨
  (∃ t, kitB t "str" = some false ∧ ∀ H', Same H H' → TyX K H' v (.type t) ∧ BadE K H' E (.int 0) (.int 0)))
theorem join_len : ∀ (ws : List Str) (sep x : Str), x ∈ ws → x.length ≤ (Str.join sep ws).length
  | [], _, _, h => nomatch h
  | [y], sep, x, h => by
    rw [List.mem_singleton.mp h]
    exact Nat.le_refl _
  | y :: z :: r, sep, x, h => by
    have e : Str.join sep (y :: z :: r) = y ++ sep ++ Str.join sep (z :: r) := rfl
    rw [e, strLen_append, strLen_append]
    rcases List.mem_cons.mp h with h | h
    · rw [h]
      omega
    · have := join_len (z :: r) sep x h
      omega
theorem words_len {z x : Str} (h : x ∈ Txt.split z " ") : x.length ≤ z.length := by
  have := join_len _ " " x h
  rw [← TL.join_eq, join_words] at this
  exact this
abbrev rSlT : V → Option Int → Option Int → Hp → VK → Prop := rSlS
abbrev tApp (K : PySem.W.Frag) (i : Nat) : TS := tDrop (tBM K "list" rAppend (tVar i) (tCons (tSl rSlT (tVar 5) (tPart (tC (V.int 1))) tNoPart) tNil))
def tNrB (K : PySem.W.Frag) (E : XK) : TS := tSeq (tIfS (tNot (tB (tCall (spCan K) [] E0 (tCons (tVar 5) (tCons (tVar 2) (tCons (tVar 3) tNil)))))) (tBad K (tC (V.int 0)) (tVar 4) fun cls d x H => E cls d H) tNext)
  (tIfS (tB (L2.tM1 rStw (tVar 5) (tC (V.str "+")))) (tApp K 2) (tApp K 3))
def tNrL (K : PySem.W.Frag) (E : XK) : TS := tFor (iEnum K (tCons (tVar 1) tNil)) (gTup K 2 (gCons (gName 4) (gCons (gName 5) gNil))) (tNrB K E)
def tNrE (K : PySem.W.Frag) (E : XK) : TS := tRet (tMake (gNo K) (spNoI K) [] E (tCons (Oo.tSMeth (gO K) (spOf K) E (tC (V.ref (gO K))) (tCons (tVar 2) tNil)) (tCons (Oo.tSMeth (gO K) (spOf K) E (tC (V.ref (gO K))) (tCons (tVar 3) tNil)) tNil)))
def tNrF (K : PySem.W.Frag) (E : XK) : TS := tIfS (tTest (tOp rEq (tOp (rIxL K) (tVar 1) (tC (V.int 0))) (tC (V.str "-")))) (tSeq (tIfS (tTest (tOp rGtI (tCB (rLenS K) (tCons (tVar 1) tNil)) (tC (V.int 1)))) (tBad K (tC (V.int 0)) (tC (V.int 1)) fun cls d x H => E cls d H) tNext)
  (tRet (tMake (gNo K) (spNoI K) [] E (tCons (tNewL K) (tCons (tNewL K) tNil))))) tNext
theorem goR_step {g l : List Str} {w : Str} {r : List Str} {i : Nat} : goR (w :: r) g l i = if canB g l w = true then (if plusB w = true then goR r (g ++ [tlS w]) l (i + 1) else goR r g (l ++ [tlS w]) (i + 1)) else .inr i := rfl
theorem app_read {σ : L2.St} {H : Hp} {D : Ends} {i : Nat} {a : Addr} {xs : List Str} {y : Str} (hi : σ[i]? = some (some (.ref a))) (h5 : σ[5]? = some (some (.str y))) (hy : y.length ≤ 1000000) (ha : RowP H a xs) (hl : xs.length ≤ 8) (k : D.nx σ (upd H a (.lst ((xs ++ [tlS y]).map V.str)))) : tApp K i D σ H := by
  refine ⟨_, hi, .inl ⟨rfl, _, SqL.of ha⟩, _, h5, 1, rfl, y, rfl, by rw [sizeLine_eq]; omega, a, _, _, rfl, rfl, ha, by rw [List.length_map, sizeLine_eq]; omega, ?_⟩
  rw [List.map_append] at k
  exact k
theorem bad_read {σ : L2.St} {H : Hp} {D : Ends} {E : XK} {te : TE} {i : V} (ht : ∀ F : VK, F i H → te σ H F) (k : BadE K H E (.int 0) i) : tBad K (tC (V.int 0)) te (fun cls d x H => E cls d H) D σ H := ht _ (mkb k)
theorem nr_loop (T : KF P w K mg base) {H : Hp} {D : Ends} {E : XK} {v0 : Option V} {L g l : Addr} {ws : List Str} (hL : H L = some (.lst (ws.map V.str))) (hg : H g = some (.lst [])) (hl : H l = some (.lst [])) (nLg : L ≠ g) (nLl : L ≠ l) (ngl : g ≠ l) (wz : ∀ x ∈ ws, x.length ≤ 1000000)
    (bad : ∀ i, goR ws [] [] 0 = .inr i → ∀ H', (∀ c o, c ≠ g → c ≠ l → H c = some o → H' c = some o) → BadE K H' E (.int 0) (.int (i : Nat)))
    (good : ∀ a4 a5 g' l' H', goR ws [] [] 0 = .inl (g', l') → GL g' l' → (∀ c o, c ≠ g → c ≠ l → H c = some o → H' c = some o) → RowP H' g g' → RowP H' l l' → D.nx [v0, some (.ref L), some (.ref g), some (.ref l), a4, a5] H') :
    tNrL K E D [v0, some (.ref L), some (.ref g), some (.ref l), none, none] H := by
  refine ⟨_, rfl, L, _, rfl, SqL.of hL, ?_⟩
  refine for_it (walk_enum (K := K) (a := L) (xs := ws.map V.str)) (g := gTup K 2 (gCons (gName 4) (gCons (gName 5) gNil))) (tb := tNrB K E) (D := D) (fun i σ' H' => ∃ a4 a5 g' l', σ' = [v0, some (.ref L), some (.ref g), some (.ref l), a4, a5] ∧ (∀ c o, c ≠ g → c ≠ l → H c = some o → H' c = some o) ∧ RowP H' g g' ∧ RowP H' l l' ∧ GL g' l' ∧ goR (ws.drop i) g' l' i = goR ws [] [] 0)
    ⟨none, none, [], [], rfl, (fun _ _ _ _ e => e), hg, hl, gl_nil, rfl⟩ (fun i σ' H' _ ⟨_, _, _, _, _, s, _⟩ => SqL.of (s _ _ nLg nLl hL)) ?_ ?_
  · rintro i x σ' H1 H2 hi ⟨a4, a5, g', l', rfl, s, rg, rl, G, e⟩ ⟨t, x0, y0, rfl, nt, rfl, e1, e2⟩
    rw [List.length_map] at hi
    have hw : ws[i]? = some (ws.getD i "") := getD_at hi
    have e2 : (ws.map V.str)[i]? = some y0 := e2
    rw [List.getElem?_map, hw] at e2
    cases e2
    cases e1
    have hm : ws.getD i "" ∈ ws := List.mem_of_getElem? hw
    have hz := wz _ hm
    have hd : ws.drop i = ws.getD i "" :: ws.drop (i + 1) := by
      rw [List.drop_eq_getElem_cons hi]
      congr 1
      first
        | done
        | exact (Option.some.inj ((List.getElem?_eq_getElem hi).symm.trans hw))
        | exact (Option.some.inj (hw.symm.trans (List.getElem?_eq_getElem hi))).symm
    rw [hd, goR_step] at e
    have st := same_new (o := .tup [V.int (i : Nat), V.str (ws.getD i "")]) nt
    refine ⟨t, _, rfl, SqT.of upd_same, rfl, _, _, rfl, _, _, rfl, rfl, ?_⟩
    refine ⟨_, rfl, _, rfl, _, rfl, ws.getD i "", g, l, g', l', rfl, hz, st _ _ rg, st _ _ rl, fun H3 s3 => ⟨_, rfl, ?_⟩⟩
    have s13 : ∀ c o, c ≠ g → c ≠ l → H c = some o → H3 c = some o := fun c o h1 h2 q => s3 _ _ (st _ _ (s c o h1 h2 q))
    have rg3 : RowP H3 g g' := s3 _ _ (st _ _ rg)
    have rl3 : RowP H3 l l' := s3 _ _ (st _ _ rl)
    cases c : canB g' l' (ws.getD i "") with
    | false =>
      rw [c, if_neg Bool.false_ne_true] at e
      exact if_posB rfl (bad_read (i := .int (i : Nat)) (fun F q => ⟨_, rfl, q⟩) (bad i e.symm H3 s13))
    | true =>
      rw [c, if_pos rfl] at e
      refine if_negB rfl ⟨_, rfl, ⟨_, rfl⟩, ws.getD i "", "+", rfl, rfl, _, rfl, ?_⟩
      cases p : plusB (ws.getD i "") with
      | true =>
        rw [p, if_pos rfl] at e
        refine if_posB p (app_read (i := 2) rfl rfl hz rg3 G.lg ?_)
        exact ⟨_, _, _, _, rfl, fun c o h1 h2 q => by rw [upd_ne h1]; exact s13 c o h1 h2 q, upd_same, by show upd H3 g _ l = _; rw [upd_ne ngl.symm]; exact rl3, (gl_plus G c p).1, e⟩
      | false =>
        rw [p, if_neg Bool.false_ne_true] at e
        refine if_negB p (app_read (i := 3) rfl rfl hz rl3 G.ll ?_)
        exact ⟨_, _, _, _, rfl, fun c o h1 h2 q => by rw [upd_ne h2]; exact s13 c o h1 h2 q, by show upd H3 l _ g = _; rw [upd_ne ngl]; exact rg3, upd_same, (gl_minus G c p).1, e⟩
  · rintro σ' H1 ⟨a4, a5, g', l', rfl, s, rg, rl, G, e⟩
    rw [List.length_map, List.drop_length] at e
    exact good a4 a5 g' l' H1 e.symm G s rg rl
theorem of_read (T : KF P w K mg base) {σ : L2.St} {H : Hp} {Q : VK} {E : XK} {i : Nat} {a : Addr} {xs : List Str} (hi : σ[i]? = some (some (.ref a))) (ha : RowP H a xs) (as : Asc xs) (fx : ∀ x ∈ xs, isFixB x = true) (l8 : xs.length ≤ 8) (k : ∀ q H', Same H H' → IsLot K H' q xs → Q (.ref q) H') :
    Oo.tSMeth (gO K) (spOf K) E (tC (V.ref (gO K))) (tCons (tVar i) tNil) σ H Q := by
  refine ⟨rfl, _, hi, _, rfl, .inl ⟨_, ⟨a, rfl, .inl ha⟩, fun H4 s4 => .good (by omega) fx fun H5 s5 => ⟨fun _ H6 q dq tq s6 O => ?_, fun h => ?_⟩⟩⟩
  · rw [lined_asc as] at O
    exact k q H6 (s4.trans (s5.trans s6)) ⟨dq, tq, O⟩
  · rw [lined_asc as] at h
    omega
theorem nr_end (T : KF P w K mg base) {H : Hp} {D : Ends} {E : XK} {v0 v1 a4 a5 : Option V} {g l : Addr} {gs ls : List Str} (rg : RowP H g gs) (rl : RowP H l ls) (G : GL gs ls) (k : ∀ x H', Same H H' → IsNote K H' x gs ls → D.rt (.ref x) H') :
    tNrE K E D [v0, v1, some (.ref g), some (.ref l), a4, a5] H := by
  show Oo.tSMeth (gO K) (spOf K) E (tC (V.ref (gO K))) (tCons (tVar 2) tNil) [v0, v1, some (.ref g), some (.ref l), a4, a5] H (fun x H1 => Oo.tSMeth (gO K) (spOf K) E (tC (V.ref (gO K))) (tCons (tVar 3) tNil) [v0, v1, some (.ref g), some (.ref l), a4, a5] H1 (fun x2 H2 => ∀ u dx, H2 u = none → H2 dx = none → dx ≠ u → spNoI K (.ref u :: ([x, x2] ++ [])) (upd (upd H2 dx (.own u)) u (.ins (gNo K) dx [])) (fun v H3 => v = .non ∧ D.rt (.ref u) H3) E))
  refine of_read (i := 2) T rfl rg G.ag G.fg G.lg fun q H1 s1 O1 => of_read (i := 3) T rfl (s1 _ _ rl) G.al G.fl G.ll fun q2 H2 s2 O2 => ?_
  exact note_new (Q := D.rt) (O1.same s2) O2 G.ap fun u H3 s3 nu => k u H3 (s1.trans (s2.trans s3)) nu
theorem ok_nr (T : KF P w K mg base) {fd : FuncData} (F : FunD K "read" "Note.read" (defArgs (nSt 1)) (defBody (nSt 1)) (defScope (nSt 1)) [] [] (aNr K) fd) : FnOk P w K mg base (L2.CX P w) 9 (aNr K) fd ["text"] (spNr K) := by
  obtain ⟨f4, F4⟩ := T.ini
  obtain ⟨ds, rds, bi⟩ := FunD.binds1 F4 (ps := ["self", "text", "line"]) 2 0 (fun z => nomatch z) rfl fun T kV doc pm an cdv ct us its h1 h2 => match us, its, h1, h2 with
      | [_, _], [_], _, _ => ⟨_, rfl, rfl⟩
  have Gi := ok_init T F4
  obtain ⟨m2, fl, Fl⟩ := T.meth ("__len__", 2) (by decide)
  have bl : L2.Binds K fl ["self"] [] := FunD.bindsN Fl fun _ _ _ _ _ _ us hl => match us, hl with | [_], _ => rfl
  have Gl := ok_lenW T Fl
  have m1 := mt T ("__iter__", 3) (by decide)
  obtain ⟨fc, Fc, gc⟩ := T.tops ("can_follow", 38) (by decide)
  have Gc : FnOk P w K mg base CX0 2 (ga K "can_follow") fc ["word", "gained", "lost"] (spCan K) := ok_can T Fc
  have bc : L2.Binds K fc ["word", "gained", "lost"] [] := FunD.bindsN Fc fun _ _ _ _ _ _ us hl => match us, hl with | [_, _, _], _ => rfl
  have kc := Fc.kp
  obtain ⟨fn, Gn, bn, mn, gn⟩ := mk_note (w := w) T
  obtain ⟨fo, Fo⟩ := T.fo
  have bo : L2.Binds K fo ["fixes"] [] := FunD.bindsN Fo fun _ _ _ _ _ _ us hl => match us, hl with | [_], _ => rfl
  have Go := Oo.FnOk.r0 (ok_of T Fo) bo
  refine F.ok scNr (fun vs H Q E h => ?_) (fun cdv A outer s H vs Q E hr h => ?_)
  · obtain ⟨v, rfl, _⟩ := h
    rfl
  · have hp : Passes (L2.CX P w) (cxOf (L2.CX P w) P w K mg base scNr_N "Note.read" (defScope (nSt 1)) (aNr K) cdv A outer s H E) E := passes_call (takes_of rfl rfl rfl rfl) fun _ _ _ _ h => h
    have nd := scNr.nd
    obtain ⟨v, rfl, k⟩ := h
    refine ⟨_, pss_cons (ps_set (i := 1) nd rfl (.inl rfl) (pe_callTy (Ow.call_listT (k := 1) (k2 := 1) (C := gW K) rfl m1.at_ m1.fn m2.at_ m2.fn (hr.mono (by decide)) Gl bl (hr.mono (by decide))) (by rfl) (T.fr "list" (by decide)) boot_list (pa_cons (pe_make (E := E) T.mkr Gi (hr.mono (by decide)) (by rfl) T.gw bi rds hp (pa_cons (pv 0) pa_nil)) pa_nil)))
      (pss_cons (ps_set (i := 2) nd rfl (.inl rfl) (pe_lst pa_nil))
      (pss_cons (ps_set (i := 3) nd rfl (.inl rfl) (pe_lst pa_nil))
      (pss_cons (ps_if (pt_cmpR op_eq (pe_ix ix_list (pv 1) pe_int (fun _ _ => rfl)) pe_str (nomark _))
        (pss_cons (ps_if (pt_cmpR op_gt (pe_callB call_len_seq (by rfl) (T.fr "len" (by decide)) PySem.boot_len (pa_cons (pv 1) pa_nil)) pe_int (nomark _)) (pss_one (ps_bad T (hr.mono (by decide)) rfl (takes_of rfl rfl rfl rfl) (by rfl) pe_int pe_int)) pss_nil)
          (pss_one (ps_ret (pe_make (E := E) mn Gn (hr.mono (by decide)) (by rfl) gn bn .nil hp (pa_cons (Oo.pe_new0 (E := E0) T.mko (ok_li T) (hr.mono (by decide)) (by rfl) T.go passL) (pa_cons (Oo.pe_new0 (E := E0) T.mko (ok_li T) (hr.mono (by decide)) (by rfl) T.go passL) pa_nil)))))) pss_nil)
      (pss_cons (ps_for (passes_of rfl) rfl (pi_enum (by rfl) (T.fr "enumerate" (by decide)) (pa_cons (pv 1) pa_nil)) (pg_tup (by rfl) (pgs_cons (pg_name (i := 4) nd rfl (.inl rfl)) (pgs_cons (pg_name (i := 5) nd rfl (.inl rfl)) pgs_nil)))
        (pss_cons (ps_if (pt_not (pt_val (pe_call (E := E0) Gc (hr.mono (by decide)) (by rfl) gc kc bc .nil pass0 (pa_cons (pv 5) (pa_cons (pv 2) (pa_cons (pv 3) pa_nil)))))) (pss_one (ps_bad T (hr.mono (by decide)) rfl (takes_of rfl rfl rfl rfl) (by rfl) pe_int (pv 4))) pss_nil)
        (pss_one (ps_if (pt_val (pe_m1 PySem.F.slot_str_startswith PySem.F.type_str_startswith mt_startswith (pv 5) pe_str))
          (pss_one (ps_expr (pe_bm PySem.F.plainAttrs_list PySem.F.slot_list_append PySem.F.type_list_append mt_append (pv 2) (pa_cons (pe_slice sl_str (pv 5) (po_some pe_int) po_none) pa_nil))))
          (pss_one (ps_expr (pe_bm PySem.F.plainAttrs_list PySem.F.slot_list_append PySem.F.type_list_append mt_append (pv 3) (pa_cons (pe_slice sl_str (pv 5) (po_some pe_int) po_none) pa_nil))))))))
      (pss_one (ps_ret (pe_make (E := E) mn Gn (hr.mono (by decide)) (by rfl) gn bn .nil hp
        (pa_cons (Oo.pe_smeth (E := E) (pe_glob (v := .ref (gO K)) (by rfl) T.go rfl) (cread T) (smet T) Go (hr.mono (by decide)) hp (pa_cons (pv 2) pa_nil))
          (pa_cons (Oo.pe_smeth (E := E) (pe_glob (v := .ref (gO K)) (by rfl) T.go rfl) (cread T) (smet T) Go (hr.mono (by decide)) hp (pa_cons (pv 3) pa_nil)) pa_nil))))))))), ?_⟩
    refine ⟨v, rfl, fun p dx hp0 hd ne => ⟨p, dx, v, 0, rfl, upd_same, ?_⟩⟩
    have s0 : Same H (upd (upd H dx (.own p)) p (.ins (gW K) dx [])) := fun c o e => by
      rw [upd_ne (ne_of_none e hp0), upd_ne (ne_of_none e hd)]
      exact e
    rcases k with ⟨x, rfl, hx, good, bad⟩ | ⟨t, kt, k⟩
    · have hws : (Txt.split x " ").length ≤ 1000 := by
        have := PyProof.Rows.split_le x " "
        omega
      refine .inr ⟨x, rfl, by omega, hws, fun H1 tp s1 O => ⟨rfl, p, dx, _, tp, (Txt.split x " ").map V.str, rfl, O.ob, SqT.of O.ps, by rw [List.length_map]; omega, fun H' s' => ⟨p, dx, tp, _, 0, 0, rfl, O.same s', by rw [List.length_map], rfl⟩,
        fun H' s' => gives_iterW (X := { cxOf (L2.CX P w) P w K mg base scNr_N "Note.read" (defScope (nSt 1)) (aNr K) cdv A outer s H E with A := (cxOf (L2.CX P w) P w K mg base scNr_N "Note.read" (defScope (nSt 1)) (aNr K) cdv A outer s H E).A.in1.in1 }) T (O.same s'), fun L nL => ?_⟩⟩
      have s01 : Same H H1 := fun c o e => s1 c o (ne_of_none e hp0) (s0 c o e)
      have s02 := s01.trans (same_new (o := .lst ((Txt.split x " ").map V.str)) nL)
      refine ⟨Nat.zero_le _, fun g ng => ⟨Nat.zero_le _, fun l nl => ?_⟩⟩
      have hL : (upd H1 L (.lst ((Txt.split x " ").map V.str))) L = some (.lst ((Txt.split x " ").map V.str)) := upd_same
      have sg := same_new (o := .lst []) ng
      have sl := same_new (o := .lst []) nl
      have nLg : L ≠ g := ne_of_none hL ng
      have nLl : L ≠ l := ne_of_none (sg _ _ hL) nl
      have ngl : g ≠ l := ne_of_none upd_same nl
      have hL2 := sl _ _ (sg _ _ hL)
      have s04 := s02.trans (sg.trans sl)
      have back : ∀ {H' : Hp}, (∀ c o, c ≠ g → c ≠ l → (upd (upd (upd H1 L (.lst ((Txt.split x " ").map V.str))) g (.lst [])) l (.lst [])) c = some o → H' c = some o) → Same H H' := fun {H'} q c o e =>
        q c o (ne_of_none (s02 c o e) ng) (ne_of_none (sg _ _ (s02 c o e)) nl) (s04 c o e)
      have h0 : (Txt.split x " ")[0]? = some ((Txt.split x " ").getD 0 "") := getD_at (List.length_pos_iff.mpr (split_some x))
      show tSeq (tNrF K E) (tSeq (tNrL K E) (tNrE K E)) { nx := fun _ H' => Q .non H', rt := Q } [some (.str x), some (.ref L), some (.ref g), some (.ref l), none, none] _
      refine ⟨_, rfl, L, _, 0, .str ((Txt.split x " ").getD 0 ""), rfl, rfl, SqL.of hL2, atI_nat (j := 0) (by rw [List.getElem?_map, h0]; rfl), rfl, _, rfl, ?_⟩
      by_cases hd : (Txt.split x " ").getD 0 "" = "-"
      · refine if_posB (decide_eq_true (congrArg V.str hd)) ⟨_, rfl, L, _, rfl, .inl (SqL.of hL2), _, 1, rfl, rfl, _, rfl, ?_⟩
        rw [List.length_map]
        by_cases h1 : 1 < (Txt.split x " ").length
        · refine if_posB (decide_eq_true (by omega)) (bad_read (i := .int 1) (fun F q => q) (bad 1 ?_ _ s04))
          unfold readF
          rw [if_pos hd, if_pos h1]
        · refine if_negB (decide_eq_false (by omega)) (note_none fun u H5 s5 nu => good [] [] ?_ u H5 (s04.trans s5) nu)
          unfold readF
          rw [if_pos hd, if_neg h1]
      · have er : readF (Txt.split x " ") = goR (Txt.split x " ") [] [] 0 := by
          unfold readF
          rw [if_neg hd]
        refine if_negB (decide_eq_false fun z => hd (V.str.inj z)) ?_
        refine nr_loop T hL2 (sl _ _ upd_same) upd_same nLg nLl ngl (fun y hy => Nat.le_trans (words_len hy) (by omega)) (fun i ei H' q => bad i (er.trans ei) H' (back q)) fun a4 a5 g' l' H' ei G q rg rl => ?_
        exact nr_end T rg rl G fun u H5 s5 nu => good g' l' (er.trans ei) u H5 ((back q).trans s5) nu
    · obtain ⟨ty, bd⟩ := k _ s0
      exact .inl ⟨t, ty, kt, bd⟩
theorem c_nr (T : KF P w K mg base) : ∃ fd, FnOk P w K mg base (L2.CX P w) 9 (aNr K) fd ["text"] (spNr K) ∧ L2.Binds K fd ["text"] [] ∧ ∀ (s : Shared) (ws : List Value), ws.length = (["text"] : List Str).length → BindsTo s fd ⟨[], (["text"] : List Str).zip ws⟩ ((["text"] : List Str).zip (Kw.sel [0] ws)) := by
  obtain ⟨fd, F⟩ := T.frn
  refine ⟨fd, ok_nr T F, FunD.bindsN F fun _ _ _ _ _ _ us hl => match us, hl with | [_], _ => rfl, ?_⟩
  intro s ws hl
  obtain ⟨oc, od, dV, kV, doc, pm, an, cdv, ct, osl, rfl, lk, hcd, hD, hK⟩ := F.ex
  rcases hD with ⟨_, rfl⟩ | ⟨e, _⟩
  · match ws, hl with
    | [a], _ => exact .of_eq rfl
  · exact absurd rfl e
end
end K7
set_option Elab.async false
set_option linter.all false
set_option maxRecDepth 100000
set_option maxHeartbeats 1000000
/-! What notes, releases and note_of refuse. -/
namespace K7
open PySem PySem.Spec PyProof.Rows L2 RV EV He EF EI Kw
structure Kit2 (K : PySem.W.Frag) : Prop where
  lr : PySem.W.kitOne K (.ref (gO K)) (.ref (gRe K)) = some false
  nr : PySem.W.kitOne K (.ref (gNu K)) (.ref (gRe K)) = some false
  br : ∀ t ∈ besT, PySem.W.kitOne K (.type t) (.ref (gRe K)) = some false
  bu : ∀ t ∈ besT, PySem.W.kitOne K (.type t) (.ref (gNu K)) = some false
  bl : ∀ t ∈ besT, PySem.W.kitOne K (.type t) (.ref (gO K)) = some false
section
variable {P : Program} {w : World} {K : PySem.W.Frag} {mg : Str → Option Value} {base : Heap} {f : Addr} {fd : FuncData}
theorem kit2 (T : KF P w K mg base) : Kit2 K := by
  have z : relB K = true := T.relb
  unfold relB at z
  obtain ⟨_, z⟩ := ba z
  obtain ⟨z, _⟩ := ba z
  obtain ⟨_, z⟩ := ba z
  unfold kit2B at z
  obtain ⟨z1, z⟩ := ba z
  obtain ⟨z2, z⟩ := ba z
  obtain ⟨z3, z⟩ := ba z
  obtain ⟨z4, _⟩ := ba z
  obtain ⟨_, y⟩ := ba T.l5
  obtain ⟨_, y⟩ := ba y
  obtain ⟨_, y⟩ := ba y
  exact ⟨of_decide_eq_true z1, of_decide_eq_true z2, fun t ht => of_decide_eq_true (List.all_eq_true.mp z3 t ht), fun t ht => of_decide_eq_true (List.all_eq_true.mp z4 t ht), fun t ht => of_decide_eq_true (List.all_eq_true.mp y t ht)⟩
/-! Note.__init__, refused -/
def spNoIx (K : PySem.W.Frag) : Sp := fun vs H Q E => ∃ p dx v u, vs = [.ref p, v, u] ∧ H p = some (.ins (gNo K) dx []) ∧
  ((∃ t, TyX K H v t ∧ PySem.W.kitOne K t (.ref (gO K)) = some false ∧ Bad1 (He.ga K "BadWay") "value" H E (.str "gained")) ∨
   (∃ g ga t, v = .ref g ∧ IsLot K H g ga ∧ TyX K H u t ∧ PySem.W.kitOne K t (.ref (gO K)) = some false ∧ Bad1 (He.ga K "BadWay") "value" H E (.str "lost")) ∨
   ∃ g l ga lo, v = .ref g ∧ u = .ref l ∧ IsLot K H g ga ∧ IsLot K H l lo ∧ apartB ga lo = false ∧ ∀ H', Same H H' → Bad1 (He.ga K "BadWay") "value" H' E (.str "both"))
theorem ok_noIx (T : KF P w K mg base) {fd : FuncData} (F : FunD K "__init__" "Note.__init__" (defArgs iSt) (defBody iSt) (defScope iSt) [] [] (ma K (gNo K) "__init__") fd) : FnOk P w K mg base (L2.CX P w) 4 (ma K (gNo K) "__init__") fd ["self", "gained", "lost"] (spNoIx K) := by
  refine F.ok scNoI (fun vs H Q E h => ?_) (fun cdv A outer s H vs Q E hr h => ?_)
  · obtain ⟨p, dx, v, u, rfl, _⟩ := h
    rfl
  · obtain ⟨p, dx, v, u, rfl, hp, k⟩ := h
    refine ⟨_, pss_cons (ps_if (pt_not (pt_val (pe_callB call_isi (by rfl) (T.fr "isinstance" (by decide)) PyProof.Rows.boot_isinstance (pa_cons (pv 1) (pa_cons (pe_glob (v := .ref (gO K)) (by rfl) T.go rfl) pa_nil)))))
        (pss_one (ps_raise1 T.bw (hr.mono (by decide)) rfl (takes_of rfl rfl rfl rfl) (by rfl) pe_str)) pss_nil)
      (pss_cons (ps_if (pt_not (pt_val (pe_callB call_isi (by rfl) (T.fr "isinstance" (by decide)) PyProof.Rows.boot_isinstance (pa_cons (pv 2) (pa_cons (pe_glob (v := .ref (gO K)) (by rfl) T.go rfl) pa_nil)))))
        (pss_one (ps_raise1 T.bw (hr.mono (by decide)) rfl (takes_of rfl rfl rfl rfl) (by rfl) pe_str)) pss_nil)
      (pss_cons (ps_if (pt_val (pe_callB (cr_any rfl) (by rfl) (T.fr "any" (by decide)) boot_any (pa_cons (pe_lc (own := [("fix", 3)]) (g := gName 3) (tt := tYes) (te := tInL K 3 2) rfl scNoI.nd
            (Ow.pi_own (k := 1) (pv 1) (lm T ("__iter__", 8) (by decide)).at_ (lm T ("__iter__", 8) (by decide)).fn (hr.mono (by decide)))
            (blkOk_by (N := scNoI_N) (sc := defScope iSt) (by decide +kernel)) (fun _ _ _ _ _ => pg_name (i := 3) scNoI.nd rfl (.inl rfl)) (fun _ _ _ _ _ => pts_nil)
            (fun _ _ _ _ _ => pe_cmpR (Oo.op_inO (lm T ("__contains__", 6) (by decide)) (r_co T) (hr.mono (by decide)) pass0) (pv 3) (pv 2) rfl)) pa_nil)))
        (pss_one (ps_raise1 T.bw (hr.mono (by decide)) rfl (takes_of rfl rfl rfl rfl) (by rfl) pe_str)) pss_nil)
      (pss_cons (ps_fld (pv 0) (pv 1) rfl) (pss_one (ps_fld (pv 0) (pv 2) rfl))))), ?_⟩
    rcases k with ⟨t, ty, kt, bd⟩ | ⟨g, ga, t, rfl, hg, ty, kt, bd⟩ | ⟨g, l, ga, lo, rfl, rfl, hg, hl, ap, bd⟩
    · exact ⟨_, rfl, v, .ref (gO K), t, _, false, rfl, .own _, ty, kt, false, rfl, if_posB rfl (mkb1 bd)⟩
    · exact isL_read (i := 1) T rfl hg ⟨_, rfl, u, .ref (gO K), t, _, false, rfl, .own _, ty, kt, false, rfl, if_posB rfl (mkb1 bd)⟩
    · refine isL_read (i := 1) T rfl hg (isL_read (i := 2) T rfl hl ?_)
      show tAny (cxOf (L2.CX P w) P w K mg base scNoI_N "Note.__init__" (defScope iSt) (ma K (gNo K) "__init__") cdv A outer s H E) 3 (tVar 1) (tVar 2) [some (.ref p), some (.ref g), some (.ref l), none] H _
      refine any_read (X := cxOf (L2.CX P w) P w K mg base scNoI_N "Note.__init__" (defScope iSt) (ma K (gNo K) "__init__") cdv A outer s H E) (ti := tVar 1) (tj := tVar 2) (i := 3) (σ := [some (.ref p), some (.ref g), some (.ref l), none]) T hg hl (fun R r => ⟨_, rfl, r⟩) (fun z H' R _ r => ⟨_, rfl, r⟩) (fun z => rfl) (fun _ => rfl) fun H1 s1 => ?_
      refine ⟨_, rfl, if_posB (any_apart ap) (mkb1 (bd H1 s1))⟩
theorem mk_notex (T : KF P w K mg base) : ∃ fd, FnOk P w K mg base (L2.CX P w) 4 (ma K (gNo K) "__init__") fd ["self", "gained", "lost"] (spNoIx K) ∧ L2.Binds K fd ["self", "gained", "lost"] [] := by
  obtain ⟨fd, F⟩ := T.ik ("Note", 39) (by decide)
  exact ⟨fd, ok_noIx T F, FunD.bindsN F fun _ _ _ _ _ _ us hl => match us, hl with | [_, _, _], _ => rfl⟩
/-! kept_value of a tuple of plain values -/
/-- a value that is no tuple, list, dict, wherever it stands -/
def PlainV (K : PySem.W.Frag) (x : V) : Prop := ∃ t, (∀ H', TyX K H' x t) ∧ PySem.W.kitOne K t (.type "tuple") = some false ∧ PySem.W.kitAny K t [.type "list", .type "dict"] = some false
theorem plain_int (i : Int) : PlainV K (.int i) := ⟨.type "int", fun _ => .base (.int i), kit_ty (by decide +kernel), kitAny_cons (b := false) (kit_ty (by decide +kernel)) (fun _ => kitAny_cons (b := false) (kit_ty (by decide +kernel)) (fun _ => kitAny_nil) (fun z => nomatch z)) (fun z => nomatch z)⟩
theorem plain_str (z : Str) : PlainV K (.str z) := ⟨.type "str", fun _ => .base (.str z), kit_ty (by decide +kernel), kitAny_cons (b := false) (kit_ty (by decide +kernel)) (fun _ => kitAny_cons (b := false) (kit_ty (by decide +kernel)) (fun _ => kitAny_nil) (fun z => nomatch z)) (fun z => nomatch z)⟩
def spOpenT (K : PySem.W.Frag) : Sp := fun vs H Q _ => ∃ a xs, vs = [.ref a] ∧ H a = some (.tup xs) ∧ xs.length ≤ 1000 ∧ (∀ x ∈ xs, PlainV K x) ∧ ∀ H', Same H H' → Q (.bl false) H'
theorem ok_openT (T : KF P w K mg base) {f : Addr} {fd : FuncData} (F : FnP K "is_open_to_change" sOpen f fd) : FnOk P w K mg base CX0 2 f fd ["value"] (spOpenT K) := by
  obtain ⟨fo, Go, bo, ko, go⟩ := c_open (w := w) T
  refine F.ok scOp (fun vs H Q E h => ?_) (fun cdv A outer s H vs Q E hr h => ?_)
  · obtain ⟨a, xs, rfl, _⟩ := h
    rfl
  · obtain ⟨a, xs, rfl, ha, hz, pl, k⟩ := h
    refine ⟨_, PSs.nox (pss_cons (ps_if (pt_val (pe_callB call_isi (by rfl) (T.fr "isinstance" (by decide)) PyProof.Rows.boot_isinstance (pa_cons (pv 0) (pa_cons (pe_bltn (v := .ty "tuple") (by rfl) (T.fr "tuple" (by decide)) boot_T rfl) pa_nil))))
        (pss_one (ps_ret (pe_callB (cr_any rfl) (by rfl) (T.fr "any" (by decide)) boot_any (pa_cons (pe_lc (own := [("part", 1)]) (g := gName 1) (tt := tYes) (te := tCall (spOpen K) [] E0 (tCons (tVar 1) tNil)) rfl scOp.nd (pi_tup (pv 0))
          (blkOk_by (N := ["value", "part"]) (sc := defScope sOpen) (by decide +kernel)) (fun _ _ _ _ _ => pg_name (i := 1) scOp.nd rfl (.inl rfl)) (fun _ _ _ _ _ => pts_nil) (fun _ _ _ _ _ => pe_call (E := E0) Go hr (by rfl) go ko bo .nil pass0 (pa_cons (pv 1) pa_nil))) pa_nil)))) pss_nil)
      (pss_one ps_never)), ?_⟩
    refine ⟨_, rfl, .ref a, .ty "tuple", .type "tuple", _, true, rfl, .ty _, .base (.tup ha), kit_ty (by decide +kernel), true, rfl, if_posB rfl ?_⟩
    refine ⟨_, rfl, a, rfl, ⟨_, SqT.of ha⟩, fun D nD => ?_⟩
    refine lct (K := K) (a := a) (σ := [some (.ref a), none]) (i := 1) (tt := tYes) (te := tCall (spOpen K) [] E0 (tCons (tVar 1) tNil)) (p := fun _ => true) (enc := fun x : V => x) (out := fun _ => V.bl false) (ns := xs) (fun H' s => by rw [List.map_id']; exact SqT.of (s _ _ ha)) ⟨nD, hz, fun _ => rfl, fun z _ H' F s q => tests_yes (z := z) q, fun z hm _ H' F s q => ?_, fun H2 s2 hD => ?_⟩
    · obtain ⟨t, ty, kt, kl⟩ := pl z hm
      exact ⟨_, rfl, z, t, rfl, fun H'' _ => ty H'', kt, kl, fun H'' s' => q H'' s'⟩
    · rw [all_yes] at hD
      refine ⟨D, xs.map fun _ => false, rfl, SqL.of ?_, ?_⟩
      · rw [hD, List.map_map]
        rfl
      · have e : (xs.map fun _ => false).any id = false := by
          rw [List.any_map]
          exact List.any_eq_false.mpr fun _ _ => Bool.false_ne_true
        rw [e]
        exact k H2 s2
def spKeptT (K : PySem.W.Frag) : Sp := fun vs H Q _ => ∃ a xs, vs = [.ref a] ∧ H a = some (.tup xs) ∧ xs.length ≤ 1000 ∧ (∀ x ∈ xs, PlainV K x) ∧ ∀ H', Same H H' → Q (.ref a) H'
theorem ok_keptT (T : KF P w K mg base) {f : Addr} {fd : FuncData} (F : FnP K "kept_value" sKept f fd) : FnOk P w K mg base CX0 3 f fd ["value"] (spKeptT K) := by
  obtain ⟨fo, Fo, go⟩ := T.tops ("is_open_to_change", 27) (by decide)
  have Go := ok_openT (w := w) T Fo
  have bo : L2.Binds K fo ["value"] [] := FunD.bindsN Fo fun _ _ _ _ _ _ us hl => match us, hl with | [_], _ => rfl
  have ko := Fo.kp
  refine F.ok scKe (fun vs H Q E h => ?_) (fun cdv A outer s H vs Q E hr h => ?_)
  · obtain ⟨a, xs, rfl, _⟩ := h
    rfl
  · obtain ⟨a, xs, rfl, ha, hz, pl, k⟩ := h
    refine ⟨_, PSs.nox (pss_cons (ps_if (pt_not (pt_val (pe_call (E := E0) Go hr (by rfl) go ko bo .nil pass0 (pa_cons (pv 0) pa_nil)))) (pss_one (ps_ret (pv 0))) pss_nil)
      (pss_cons ps_never (pss_cons ps_never (pss_one ps_never)))), ?_⟩
    exact ⟨_, rfl, a, xs, rfl, ha, hz, pl, fun H' s' => ⟨false, rfl, if_posB rfl ⟨_, rfl, k H' s'⟩⟩⟩
/-- what a release keeps as it is -/
inductive KeptV (K : PySem.W.Frag) (H : Hp) : V → Prop
  | num {a dn : Addr} {fn : List (Str × V)} (h : H a = some (.ins (gNu K) dn fn)) : KeptV K H (.ref a)
  | lot {a dl : Addr} {fl : List (Str × V)} (h : H a = some (.ins (gO K) dl fl)) : KeptV K H (.ref a)
  | tup {a : Addr} {xs : List V} (h : H a = some (.tup xs)) (hz : xs.length ≤ 1000) (pl : ∀ x ∈ xs, PlainV K x) : KeptV K H (.ref a)
theorem KeptV.same {H H' : Hp} {v : V} (h : KeptV K H v) (s : Same H H') : KeptV K H' v := by
  cases h with
  | num h => exact .num (s _ _ h)
  | lot h => exact .lot (s _ _ h)
  | tup h hz pl => exact .tup (s _ _ h) hz pl
def spKeptV (K : PySem.W.Frag) : Sp := fun vs H Q _ => ∃ v, vs = [v] ∧ KeptV K H v ∧ ∀ H', Same H H' → Q v H'
theorem c_keptV (T : KF P w K mg base) : Callee P w K mg base CX0 3 "kept_value" ["value"] (spKeptV K) := by
  obtain ⟨fd, F, g⟩ := T.tops ("kept_value", 28) (by decide)
  have b : L2.Binds K fd ["value"] [] := FunD.bindsN F fun _ _ _ _ _ _ us hl => match us, hl with | [_], _ => rfl
  have kt := kits T
  obtain ⟨_, clN, _⟩ := T.gk ("Number", 32) (by decide)
  refine ⟨fd, ⟨fun vs H Q E h => ?_, fun A outer s H args us vs Q E hr e0 hb r h => ?_⟩, b, F.kp, g⟩
  · obtain ⟨v, rfl, _⟩ := h
    rfl
  · obtain ⟨v, rfl, kv, k⟩ := h
    cases kv with
    | num h => exact ((ok_kept T F).mono (by decide)).run A outer s H args us _ Q E hr e0 hb r ⟨_, .ref (gNu K), rfl, fun H' s' => ty_ins T clN (rB T).2.2.1 (s' _ _ h), kt.ut, kt.ul, k⟩
    | lot h => exact ((ok_kept T F).mono (by decide)).run A outer s H args us _ Q E hr e0 hb r ⟨_, .ref (gO K), rfl, fun H' s' => ty_lot T (s' _ _ h), kt.lt, kt.ll, k⟩
    | tup h hz pl => exact (ok_keptT T F).run A outer s H args us _ Q E hr e0 hb r ⟨_, _, rfl, h, hz, pl, k⟩
end
end K7
set_option Elab.async false
set_option linter.all false
set_option maxRecDepth 100000
set_option maxHeartbeats 1000000
/-! Release of any kept values; is_told, note_of of any values. -/
namespace K7
open PySem PySem.Spec PyProof.Rows L2 RV EV He EF EI Kw
section
variable {P : Program} {w : World} {K : PySem.W.Frag} {mg : Str → Option Value} {base : Heap} {f : Addr} {fd : FuncData}
theorem KeptV.same2 {H H' : Hp} {v : V} {p : Addr} (h : KeptV K H v) (ne : v ≠ .ref p) (s : Same2 H H' p) : KeptV K H' v := by
  cases h with
  | num h => exact .num (s _ _ (fun e => ne (congrArg V.ref e)) h)
  | lot h => exact .lot (s _ _ (fun e => ne (congrArg V.ref e)) h)
  | tup h hz pl => exact .tup (s _ _ (fun e => ne (congrArg V.ref e)) h) hz pl
theorem KeptV.new {H : Hp} {v : V} {p : Addr} (h : KeptV K H v) (np : H p = none) : v ≠ .ref p := by
  cases h with
  | num h => exact fun e => ne_of_none h np (V.ref.inj e)
  | lot h => exact fun e => ne_of_none h np (V.ref.inj e)
  | tup h hz pl => exact fun e => ne_of_none h np (V.ref.inj e)
def spReIv (K : PySem.W.Frag) : Sp := fun vs H Q _ => ∃ p dx v u, vs = [.ref p, v, u] ∧ u ≠ .ref p ∧ H p = some (.ins (gRe K) dx []) ∧ KeptV K H v ∧ KeptV K H u ∧
  ∀ H', Same2 H H' p → H' p = some (.ins (gRe K) dx [("number", v), ("lot", u)]) → Q .non H'
theorem ok_reIv (T : KF P w K mg base) {fd : FuncData} (F : FunD K "__init__" "Release.__init__" (defArgs rSt) (defBody rSt) (defScope rSt) [] [] (ma K (gRe K) "__init__") fd) : FnOk P w K mg base (L2.CX P w) 4 (ma K (gRe K) "__init__") fd ["self", "number", "lot"] (spReIv K) := by
  obtain ⟨fk, Gk, bk, kk, gk⟩ := c_keptV (w := w) T
  refine F.ok scReI (fun vs H Q E h => ?_) (fun cdv A outer s H vs Q E hr h => ?_)
  · obtain ⟨p, dx, n, l, rfl, _⟩ := h
    rfl
  · obtain ⟨p, dx, v, u, rfl, nu, hp, kv, ku, k⟩ := h
    refine ⟨_, pss_cons (ps_fld (pv 0) (pe_call (E := E0) Gk hr (by rfl) gk kk bk .nil pass0 (pa_cons (pv 1) pa_nil)) rfl) (pss_one (ps_fld (pv 0) (pe_call (E := E0) Gk hr (by rfl) gk kk bk .nil pass0 (pa_cons (pv 2) pa_nil)) rfl)), ?_⟩
    obtain ⟨_, clR, _⟩ := T.gk ("Release", 33) (by decide)
    refine ⟨_, rfl, v, rfl, kv, fun H1 s1 => ?_⟩
    refine ⟨_, rfl, p, gRe K, dx, _, rfl, s1 _ _ hp, clR, T.noNu, by show 0 < 1000; decide, ?_⟩
    refine ⟨_, rfl, u, rfl, (ku.same s1).same2 nu (fun c o hc e => by rw [upd_ne hc]; exact e), fun H2 s2 => ?_⟩
    refine ⟨_, rfl, p, gRe K, dx, _, rfl, s2 _ _ upd_same, clR, T.noLo, by show 1 < 1000; decide, ?_⟩
    refine k _ (fun c o hc e => ?_) (by rw [upd_same]; rfl)
    rw [upd_ne hc]
    exact s2 _ _ (by rw [upd_ne hc]; exact s1 _ _ e)
theorem mk_relv (T : KF P w K mg base) : ∃ fd, FnOk P w K mg base (L2.CX P w) 4 (ma K (gRe K) "__init__") fd ["self", "number", "lot"] (spReIv K) ∧ L2.Binds K fd ["self", "number", "lot"] [] ∧ Mk K (gRe K) (ma K (gRe K) "__init__") ∧ mg "Release" = some (.ref (gRe K)) := by
  obtain ⟨fd, F⟩ := T.ik ("Release", 33) (by decide)
  obtain ⟨g, _, m⟩ := T.gk ("Release", 33) (by decide)
  exact ⟨fd, ok_reIv T F, FunD.bindsN F fun _ _ _ _ _ _ us hl => match us, hl with | [_, _, _], _ => rfl, m, g⟩
/-- whether a value is told -/
inductive Told (K : PySem.W.Frag) (H : Hp) : V → Bool → Prop
  | no {v : V} {t : Value} (ty : ∀ H', Same H H' → TyX K H' v t) (kt : PySem.W.kitOne K t (.ref (gRe K)) = some false) : Told K H v false
  | num {p dx : Addr} {v u : V} {t : Value} (h : H p = some (.ins (gRe K) dx [("number", v), ("lot", u)])) (ty : ∀ H', Same H H' → TyX K H' v t) (kt : PySem.W.kitOne K t (.ref (gNu K)) = some false) : Told K H (.ref p) false
  | lot {p dx : Addr} {v u : V} {t t2 : Value} {b : Bool} (h : H p = some (.ins (gRe K) dx [("number", v), ("lot", u)])) (ty : ∀ H', Same H H' → TyX K H' v t) (kt : PySem.W.kitOne K t (.ref (gNu K)) = some true)
      (ty2 : ∀ H', Same H H' → TyX K H' u t2) (kt2 : PySem.W.kitOne K t2 (.ref (gO K)) = some b) : Told K H (.ref p) b
theorem Told.same {H H' : Hp} {v : V} {b : Bool} (h : Told K H v b) (s : Same H H') : Told K H' v b := by
  cases h with
  | no ty kt => exact .no (fun H2 s2 => ty H2 (s.trans s2)) kt
  | num h ty kt => exact .num (s _ _ h) (fun H2 s2 => ty H2 (s.trans s2)) kt
  | lot h ty kt ty2 kt2 => exact .lot (s _ _ h) (fun H2 s2 => ty H2 (s.trans s2)) kt (fun H2 s2 => ty2 H2 (s.trans s2)) kt2
def spTold2 (K : PySem.W.Frag) : Sp := fun vs H Q _ => ∃ v b, vs = [v] ∧ Told K H v b ∧ Q (.bl b) H
theorem ok_told2 (T : KF P w K mg base) (F : FnP K "is_told" sTold f fd) : FnOk P w K mg base CX0 1 f fd ["value"] (spTold2 K) := by
  obtain ⟨gR, clR, _⟩ := T.gk ("Release", 33) (by decide)
  obtain ⟨gN, clN, _⟩ := T.gk ("Number", 32) (by decide)
  refine F.ok scTo (fun vs H Q E h => ?_) (fun cdv A outer s H vs Q E hr h => ?_)
  · obtain ⟨v, b, rfl, _⟩ := h
    rfl
  · obtain ⟨v, b, rfl, td, k⟩ := h
    refine ⟨_, PSs.nox (pss_one (ps_ret (pe_and (pe_callB call_isi (by rfl) (T.fr "isinstance" (by decide)) PyProof.Rows.boot_isinstance (pa_cons (pv 0) (pa_cons (pe_glob (v := .ref (gRe K)) (by rfl) gR rfl) pa_nil)))
      (pe_and (pe_callB call_isi (by rfl) (T.fr "isinstance" (by decide)) PyProof.Rows.boot_isinstance (pa_cons (pe_fld (pv 0) rfl) (pa_cons (pe_glob (v := .ref (gNu K)) (by rfl) gN rfl) pa_nil)))
        (pe_one (pe_callB call_isi (by rfl) (T.fr "isinstance" (by decide)) PyProof.Rows.boot_isinstance (pa_cons (pe_fld (pv 0) rfl) (pa_cons (pe_glob (v := .ref (gO K)) (by rfl) T.go rfl) pa_nil)))))))), ?_⟩
    have kt := kits T
    have id : Same H H := fun _ _ e => e
    cases td with
    | no ty kt => exact ⟨_, rfl, v, .ref (gRe K), _, _, false, rfl, .own _, ty H id, kt, false, rfl, if_negB rfl k⟩
    | @num p dx v u t h ty kt2 =>
      refine ⟨_, rfl, .ref p, .ref (gRe K), _, _, true, rfl, .own _, ty_ins T clR (rB T).2.2.2 h, kt.rr, true, rfl, if_posB rfl ?_⟩
      exact ⟨_, rfl, p, gRe K, dx, _, _, rfl, h, clR, T.noNu, rfl, v, .ref (gNu K), _, _, false, rfl, .own _, ty H id, kt2, false, rfl, if_negB rfl k⟩
    | @lot p dx v u t t2 b h ty kt2 ty3 kt3 =>
      refine ⟨_, rfl, .ref p, .ref (gRe K), _, _, true, rfl, .own _, ty_ins T clR (rB T).2.2.2 h, kt.rr, true, rfl, if_posB rfl ?_⟩
      refine ⟨_, rfl, p, gRe K, dx, _, _, rfl, h, clR, T.noNu, rfl, v, .ref (gNu K), _, _, true, rfl, .own _, ty H id, kt2, true, rfl, if_posB rfl ?_⟩
      exact ⟨_, rfl, p, gRe K, dx, _, _, rfl, h, clR, T.noLo, rfl, u, .ref (gO K), _, _, b, rfl, .own _, ty3 H id, kt3, k⟩
def spNofX (K : PySem.W.Frag) : Sp := fun vs H _ E => ∃ a b, vs = [a, b] ∧ ((Told K H a false ∧ Bad1 (He.ga K "BadWay") "value" H E (.str "release")) ∨ (Told K H a true ∧ Told K H b false ∧ Bad1 (He.ga K "BadWay") "value" H E (.str "other")))
theorem ok_nofX (T : KF P w K mg base) (F : FnP K "note_of" sNof f fd) : FnOk P w K mg base (L2.CX P w) 9 f fd ["release", "other"] (spNofX K) := by
  obtain ⟨ft, Ft, gt⟩ := T.tops ("is_told", 35) (by decide)
  have Gt : FnOk P w K mg base CX0 1 (ga K "is_told") ft ["value"] (spTold2 K) := ok_told2 T Ft
  have bt : L2.Binds K ft ["value"] [] := FunD.bindsN Ft fun _ _ _ _ _ _ us hl => match us, hl with | [_], _ => rfl
  have kt := Ft.kp
  refine F.ok scNof (fun vs H Q E h => ?_) (fun cdv A outer s H vs Q E hr h => ?_)
  · obtain ⟨a, b, rfl, _⟩ := h
    rfl
  · obtain ⟨a, b, rfl, k⟩ := h
    refine ⟨_, pss_cons (ps_if (pt_not (pt_val (pe_call (E := E0) Gt (hr.mono (by decide)) (by rfl) gt kt bt .nil pass0 (pa_cons (pv 0) pa_nil)))) (pss_one (ps_raise1 T.bw (hr.mono (by decide)) rfl (takes_of rfl rfl rfl rfl) (by rfl) pe_str)) pss_nil)
      (pss_cons (ps_if (pt_not (pt_val (pe_call (E := E0) Gt (hr.mono (by decide)) (by rfl) gt kt bt .nil pass0 (pa_cons (pv 1) pa_nil)))) (pss_one (ps_raise1 T.bw (hr.mono (by decide)) rfl (takes_of rfl rfl rfl rfl) (by rfl) pe_str)) pss_nil)
      (pss_one ps_never)), ?_⟩
    rcases k with ⟨ta, bd⟩ | ⟨ta, tb, bd⟩
    · exact ⟨_, rfl, a, false, rfl, ta, false, rfl, if_posB rfl (mkb1 bd)⟩
    · exact ⟨_, rfl, a, true, rfl, ta, true, rfl, if_negB rfl ⟨_, rfl, b, false, rfl, tb, false, rfl, if_posB rfl (mkb1 bd)⟩⟩
theorem told_rel (T : KF P w K mg base) {H : Hp} {p : Addr} {ns : List Str} (h : IsRel K H p ns) : Told K H (.ref p) true := by
  obtain ⟨dx, n, l, R⟩ := h
  obtain ⟨_, clN, _⟩ := T.gk ("Number", 32) (by decide)
  obtain ⟨dn, fn, hn⟩ := R.n
  obtain ⟨dl, tl, L⟩ := R.l
  exact .lot R.ob (fun H' s => ty_ins T clN (rB T).2.2.1 (s _ _ hn)) (kits T).uu (fun H' s => ty_lot T (s _ _ L.ob)) (kit_lot T)
end
end K7
set_option Elab.async false
set_option linter.all false
set_option maxRecDepth 100000
set_option maxHeartbeats 1000000
/-! _law_two, _law_text. -/
namespace K7
open PySem PySem.Spec PyProof.Rows L2 RV EV He EF EI Kw
theorem row_ne {H : Hp} {p a l : Addr} {cs : List Int} {b g : Int} {ns : List Str} (N : Pen H p a cs b g) (r : RowP H l ns) : l ≠ p := fun e => by
  have r : H l = some (.lst (ns.map V.str)) := r
  rw [e, N.pn] at r
  match ns, r with
  | [], r => cases r
  | _ :: _, r => cases r
theorem same2_trans {H H1 H2 : Hp} {p : Addr} (a : Same2 H H1 p) (b : Same2 H1 H2 p) : Same2 H H2 p := fun c o hc e => b c o hc (a c o hc e)
theorem same2_of {H H1 H2 : Hp} {p : Addr} (a : Same2 H H1 p) (b : Same H1 H2) : Same2 H H2 p := fun c o hc e => b c o (a c o hc e)
def namesL : List Str := ["a", "b", "bb", "c", "fix", "g", "zzzzzzzz"]
theorem names_asc : Asc namesL := by
  unfold Asc namesL
  decide +kernel
theorem names_fix : ∀ x ∈ namesL, isFixB x = true := by
  intro x hx
  exact List.all_eq_true.mp (show namesL.all isFixB = true by decide +kernel) x hx
structure TwoOk (g l : List Str) : Prop where
  sg : g.Sublist namesL
  sl : l.Sublist namesL
  ap : ∀ x ∈ g, x ∉ l
theorem TwoOk.gl {g l : List Str} (t : TwoOk g l) : GL g l :=
  ⟨names_asc.sublist t.sg, names_asc.sublist t.sl, (fun x hx => names_fix x (t.sg.subset hx)), (fun x hx => names_fix x (t.sl.subset hx)), Nat.le_trans t.sg.length_le (by decide), Nat.le_trans t.sl.length_le (by decide), apart_iff.mpr t.ap⟩
abbrev sTwo : Stmt := top 46
abbrev scTwo_N : List Str := ["_law_pen_here", "_law_gained", "_law_lost", "_law_fix", "_law_way"]
theorem scTwo : FnScope scTwo_N ["_law_pen_here"] (defScope sTwo) := ⟨rfl, rfl, rfl, by decide +kernel, rfl, by decide +kernel, by decide +kernel⟩
def spTwo : Sp := fun vs H Q _ => ∃ (p a : Addr) (cs : List Int) (b g : Int), vs = [.ref p] ∧ Pen H p a cs b g ∧ b ≤ 900 ∧
  ∀ (t ga la : Addr) (gs ls : List Str) (b' g' : Int) (H' : Hp), TwoOk gs ls → b' ≤ b + 7 → Pen H' p a cs b' g' → Same2 H H' p → H' t = some (.tup [.ref ga, .ref la]) → RowP H' ga gs → RowP H' la ls → Q (.ref t) H'
abbrev tAp (K : PySem.W.Frag) (i j : Nat) : TS := tDrop (tBM K "list" rAppend (tVar i) (tCons (tVar j) tNil))
abbrev tIs (K : PySem.W.Frag) (n : Int) (i : Nat) : TS := tIfS (tTest (tOp rEq (tVar 4) (tC (V.int n)))) (tAp K i 3) tNext
def tTwB (K : PySem.W.Frag) : TS := tSeq (tAsg (tCall spDraw [] E0 (tCons (tVar 0) (tCons (tC (V.int 3)) tNil))) (gName 4)) (tSeq (tIs K 0 1) (tIs K 1 2))
theorem notin_take {xs : List Str} {i : Nat} {x : Str} (h : xs.Nodup) (e : xs[i]? = some x) : x ∉ xs.take i := by
  intro hm
  have h2 : (xs.take i ++ xs.drop i).Nodup := by rw [List.take_append_drop]; exact h
  have hd : x ∈ xs.drop i := List.mem_of_getElem? (i := 0) (by rw [List.getElem?_drop]; exact e)
  exact (List.pairwise_append.mp h2).2.2 x hm x hd rfl
section
variable {P : Program} {w : World} {K : PySem.W.Frag} {mg : Str → Option Value} {base : Heap} {f : Addr} {fd : FuncData}
theorem ok_two (T : KF P w K mg base) (F : FnP K "_law_two" sTwo f fd) : FnOk P w K mg base CX0 2 f fd ["_law_pen_here"] spTwo := by
  obtain ⟨fD, GD, bD, kD, gD⟩ := c_draw (w := w) T
  refine F.ok scTwo (fun vs H Q E h => ?_) (fun cdv A outer s H vs Q E hr h => ?_)
  · obtain ⟨p, a, cs, b, g, rfl, _⟩ := h
    rfl
  · obtain ⟨p, a, cs, b, g, rfl, N, hb, k⟩ := h
    have nd := scTwo.nd
    refine ⟨_, PSs.nox (pss_cons (ps_par (i := 1) (j := 2) rfl nd rfl rfl (by decide) rfl rfl (pa_cons (pe_lst pa_nil) (pa_cons (pe_lst pa_nil) pa_nil)) (by rfl))
      (pss_cons (ps_for PassesOwn.never rfl (pi_list (pe_lst (pa_cons pe_str (pa_cons pe_str (pa_cons pe_str (pa_cons pe_str (pa_cons pe_str (pa_cons pe_str (pa_cons pe_str pa_nil))))))))) (pg_name (i := 3) nd rfl (.inl rfl))
        (pss_cons (ps_set (i := 4) nd rfl (.inl rfl) (pe_call (E := E0) GD hr (by rfl) gD kD bD .nil pass0 (pa_cons (pv 0) (pa_cons pe_int pa_nil))))
        (pss_cons (ps_if (pt_cmpR op_eq (pv 4) pe_int (nomark _)) (pss_one (ps_expr (pe_bm PySem.F.plainAttrs_list PySem.F.slot_list_append PySem.F.type_list_append mt_append (pv 1) (pa_cons (pv 3) pa_nil)))) pss_nil)
        (pss_one (ps_if (pt_cmpR op_eq (pv 4) pe_int (nomark _)) (pss_one (ps_expr (pe_bm PySem.F.plainAttrs_list PySem.F.slot_list_append PySem.F.type_list_append mt_append (pv 2) (pa_cons (pv 3) pa_nil)))) pss_nil)))))
      (pss_one (ps_ret (pe_tup (pa_cons (pv 1) (pa_cons (pv 2) pa_nil))))))), ?_⟩
    refine ⟨Nat.zero_le _, fun ga nga => ⟨Nat.zero_le _, fun la nla => ⟨_, _, rfl, ?_⟩⟩⟩
    have sga := same_new (o := .lst []) nga
    have sla := same_new (o := .lst []) nla
    have ngl : ga ≠ la := ne_of_none upd_same nla
    refine ⟨by show 7 ≤ sizeLine; decide, fun A nA => ?_⟩
    have sA := same_new (o := .lst (namesL.map V.str)) nA
    have eg : (upd (upd H ga (.lst [])) la (.lst [])) ga = some (.lst []) := by rw [upd_ne ngl]; exact upd_same
    have nAg : ga ≠ A := ne_of_none eg nA
    have nAl : la ≠ A := ne_of_none upd_same nA
    have N0 := Pen.same N (sga.trans (sla.trans sA))
    have gp : ga ≠ p := fun e => by rw [e, N.pn] at nga; cases nga
    have lp : la ≠ p := fun e => by
      have z := (Pen.same N sga).pn
      rw [e, z] at nla
      cases nla
    have gA : ga ≠ a := fun e => by rw [e, N.ce] at nga; cases nga
    have lA : la ≠ a := fun e => by
      have z := (Pen.same N sga).ce
      rw [e, z] at nla
      cases nla
    refine ⟨A, rfl, ⟨_, SqL.of upd_same⟩, ?_⟩
    refine for_list (K := K) (a := A) (xs := namesL.map V.str) (tb := tTwB K) (g := gName 3) (D := { nx := fun σ H' => tRet (tTup (tCons (tVar 1) (tCons (tVar 2) tNil))) { nx := fun _ H' => Q .non H', rt := Q } σ H', rt := Q })
      (fun i σ' H' => ∃ (a3 a4 : Option V) (gs ls : List Str) (b' g' : Int), σ' = [some (.ref p), some (.ref ga), some (.ref la), a3, a4] ∧ gs.Sublist (namesL.take i) ∧ ls.Sublist (namesL.take i) ∧ (∀ x ∈ gs, x ∉ ls) ∧ b' ≤ b + i ∧ Pen H' p a cs b' g' ∧
        Same2 H H' p ∧ H' A = some (.lst (namesL.map V.str)) ∧ RowP H' ga gs ∧ RowP H' la ls)
      ⟨none, none, [], [], b, g, rfl, List.nil_sublist _, List.nil_sublist _, (fun _ h => nomatch h), by omega, N0, fun c o hc e => (sga.trans (sla.trans sA)) c o e, upd_same, sA _ _ eg, sA _ _ upd_same⟩ (fun i σ' H' _ ⟨_, _, _, _, _, _, _, _, _, _, _, _, _, z, _⟩ => SqL.of z) ?_ ?_
    · rintro i v σ' H1 hv ⟨a3, a4, gs, ls, b1, g1, rfl, sg, sl, ap, hb1, N1, s1, hA, rg, rl⟩
      have hi : i < 7 := by
        have := (List.getElem?_eq_some_iff.mp hv).1
        rw [List.length_map] at this
        exact this
      have hx : namesL[i]? = some (namesL.getD i "") := getD_at hi
      rw [List.getElem?_map, hx] at hv
      obtain rfl : V.str (namesL.getD i "") = v := Option.some.inj hv
      have hn := notin_take (asc_nodup names_asc) hx
      have more : namesL.take (i + 1) = namesL.take i ++ [namesL.getD i ""] := by
        have hi' : i < namesL.length := hi
        have e := List.take_succ_eq_append_getElem hi'
        rw [e]
        congr 2
        first
          | done
          | exact Option.some.inj ((List.getElem?_eq_getElem hi').symm.trans hx)
      have grow : ∀ {xs : List Str}, xs.Sublist (namesL.take i) → xs.Sublist (namesL.take (i + 1)) := fun z => by rw [more]; exact z.trans (List.sublist_append_left _ _)
      have gl8 : gs.length ≤ 7 := Nat.le_trans sg.length_le (by rw [List.length_take]; omega)
      have ll8 : ls.length ≤ 7 := Nat.le_trans sl.length_le (by rw [List.length_take]; omega)
      refine ⟨_, rfl, p, a, cs, b1, g1, 3, rfl, N1, by omega, by decide, by decide, fun r b2 g2 H2 r0 r1 hb2 N2 s2 => ?_⟩
      have hA2 := s2 _ _ (row_ne N1 (l := A) hA) hA
      have rg2 : RowP H2 ga gs := s2 _ _ gp rg
      have rl2 : RowP H2 la ls := s2 _ _ lp rl
      have s12 := same2_trans s1 s2
      by_cases h0 : r = 0
      · subst h0
        refine ⟨_, rfl, rfl, _, rfl, if_posB (decide_eq_true rfl) ⟨_, rfl, .inl ⟨rfl, _, SqL.of rg2⟩, _, rfl, ga, _, _, rfl, rfl, rg2, by rw [List.length_map, sizeLine_eq]; omega, ?_⟩⟩
        refine ⟨_, rfl, rfl, _, rfl, if_negB (by decide) ?_⟩
        refine ⟨_, _, gs ++ [namesL.getD i ""], ls, b2, g2, rfl, by rw [more]; exact sg.append (List.Sublist.refl _), grow sl, fun x hx hy => ?_, by omega, ⟨by rw [upd_ne gp.symm]; exact N2.pn, by rw [upd_ne gA.symm]; exact N2.ce, N2.b0, N2.g0, N2.ln⟩,
          fun c o hc e => by rw [upd_ne (ne_of_none e nga)]; exact s12 c o hc e, by rw [upd_ne nAg.symm]; exact hA2, by show upd _ _ _ _ = _; rw [upd_same, List.map_append]; rfl, by show upd H2 ga _ la = _; rw [upd_ne ngl.symm]; exact rl2⟩
        rcases List.mem_append.mp hx with h | h
        · exact ap x h hy
        · rw [List.mem_singleton.mp h] at hy
          exact hn (sl.subset hy)
      · refine ⟨_, rfl, rfl, _, rfl, if_negB (decide_eq_false fun z => h0 (V.int.inj z)) ?_⟩
        by_cases h1 : r = 1
        · subst h1
          refine ⟨_, rfl, rfl, _, rfl, if_posB (decide_eq_true rfl) ⟨_, rfl, .inl ⟨rfl, _, SqL.of rl2⟩, _, rfl, la, _, _, rfl, rfl, rl2, by rw [List.length_map, sizeLine_eq]; omega, ?_⟩⟩
          refine ⟨_, _, gs, ls ++ [namesL.getD i ""], b2, g2, rfl, grow sg, by rw [more]; exact sl.append (List.Sublist.refl _), fun x hx hy => ?_, by omega, ⟨by rw [upd_ne lp.symm]; exact N2.pn, by rw [upd_ne lA.symm]; exact N2.ce, N2.b0, N2.g0, N2.ln⟩,
            fun c o hc e => by rw [upd_ne (ne_of_none (sga _ _ e) nla)]; exact s12 c o hc e, by rw [upd_ne nAl.symm]; exact hA2, by show upd H2 la _ ga = _; rw [upd_ne ngl]; exact rg2, by show upd _ _ _ _ = _; rw [upd_same, List.map_append]; rfl⟩
          rcases List.mem_append.mp hy with h | h
          · exact ap x hx h
          · rw [List.mem_singleton.mp h] at hx
            exact hn (sg.subset hx)
        · refine ⟨_, rfl, rfl, _, rfl, if_negB (decide_eq_false fun z => h1 (V.int.inj z)) ?_⟩
          exact ⟨_, _, gs, ls, b2, g2, rfl, grow sg, grow sl, ap, by omega, N2, s12, hA2, rg2, rl2⟩
    · rintro σ' H1 ⟨a3, a4, gs, ls, b1, g1, rfl, sg, sl, ap, hb1, N1, s1, hA, rg, rl⟩
      refine ⟨_, rfl, _, rfl, by show 2 ≤ sizeLine; decide, fun t nt => ?_⟩
      have st := same_new (o := .tup [V.ref ga, V.ref la]) nt
      rw [List.length_map] at hb1
      exact k t ga la gs ls b1 g1 _ ⟨sg, sl, ap⟩ hb1 (Pen.same N1 st) (same2_of s1 st) upd_same (st _ _ rg) (st _ _ rl)
theorem c_two (T : KF P w K mg base) : Callee P w K mg base CX0 2 "_law_two" ["_law_pen_here"] spTwo := by
  obtain ⟨fd, F, g⟩ := T.tops ("_law_two", 46) (by decide)
  exact ⟨fd, ok_two T F, FunD.bindsN F fun _ _ _ _ _ _ us hl => match us, hl with | [_], _ => rfl, F.kp, g⟩
end
end K7
set_option Elab.async false
set_option linter.all false
set_option maxRecDepth 100000
set_option maxHeartbeats 1000000
/-! _law_text. -/
namespace K7
open PySem PySem.Spec PyProof.Rows L2 RV EV He EF EI Kw
abbrev sTxt : Stmt := top 47
abbrev scTxt_N : List Str := ["_law_gained", "_law_lost", "_law_fix"]
theorem scTxt : FnScope scTxt_N ["_law_gained", "_law_lost"] (defScope sTxt) := ⟨rfl, rfl, rfl, by decide +kernel, rfl, by decide +kernel, by decide +kernel⟩
structure Few (xs : List Str) : Prop where
  le : xs.length ≤ 8
  fx : ∀ x ∈ xs, isFixB x = true
theorem sum_le {m : Nat} : ∀ {ns : List Str}, (∀ x ∈ ns, x.length ≤ m) → (ns.map (·.length)).sum ≤ ns.length * m
  | [], _ => by simp
  | x :: r, h => by
    have h1 := h x (List.mem_cons_self ..)
    have h2 := sum_le fun y hy => h y (List.mem_cons_of_mem _ hy)
    rw [List.map_cons, List.sum_cons, List.length_cons, Nat.add_mul, Nat.one_mul]
    omega
theorem plus_eq (c z : Str) : plus c z = c ++ z := by
  have e : Str.empty ++ c = c := by
    refine ext_toList ?_
    show ((#[] : Array Nat) ++ c.cps).toList = _
    simp
  unfold plus
  rw [e]
theorem told_few {g l : List Str} (G : Few g) (L : Few l) : (toldL g l).length ≤ 16 ∧ ∀ x ∈ toldL g l, x.length ≤ 9 := by
  have h1 := G.le
  have h2 := L.le
  refine ⟨by unfold toldL; rw [List.length_append, List.length_map, List.length_map]; omega, fun x hx => ?_⟩
  unfold toldL at hx
  rcases List.mem_append.mp hx with h | h
  · obtain ⟨y, hy, rfl⟩ := List.mem_map.mp h
    exact plus_len rfl (fix_len (G.fx y hy))
  · obtain ⟨y, hy, rfl⟩ := List.mem_map.mp h
    exact plus_len rfl (fix_len (L.fx y hy))
def spTxt : Sp := fun vs H Q _ => ∃ a b g l, vs = [.ref a, .ref b] ∧ RowP H a g ∧ RowP H b l ∧ Few g ∧ Few l ∧ ∀ H', Same H H' → Q (.str (noteText g l)) H'
abbrev rCatS : R2 := fun x y H Q => ∃ i j, x = V.str i ∧ y = V.str j ∧ i.length + j.length ≤ sizeLine ∧ Q (V.str (i ++ j)) H
section
variable {P : Program} {w : World} {K : PySem.W.Frag} {mg : Str → Option Value} {base : Heap} {f : Addr} {fd : FuncData}
theorem sg_read {σ : L2.St} {H : Hp} {Q : VK} {i : Nat} {a : Addr} {c : Str} {xs : List Str} (hc : c.length = 1) (hi : σ[i]? = some (some (.ref a))) (ha : RowP H a xs) (F : Few xs) (hz : ∀ z : Str, ((wipe σ [2]).set 2 (some (V.str z)))[2]? = some (some (.str z))) (hw : ∀ v, wipe ((wipe σ [2]).set 2 (some v)) [2] = wipe σ [2])
    (k : ∀ D H', Same H H' → RowP H' D (xs.map (plus c)) → Q (.ref D) H') : tLc (iList K (tVar i)) (gName 2) tYes (tOp rCatS (tC (.str c)) (tVar 2)) [2] σ H Q := by
  have h8 := F.le
  refine ⟨_, hi, a, rfl, ⟨_, SqL.of ha⟩, fun D nD => ?_⟩
  refine lcl (K := K) (a := a) (σ := σ) (i := 2) (tt := tYes) (te := tOp rCatS (tC (.str c)) (tVar 2)) (p := fun _ => true) (enc := V.str) (out := fun x => V.str (plus c x)) (ns := xs) (fun H' s => SqL.of (s _ _ ha)) ⟨nD, by omega, hw, fun z _ H' F s q => tests_yes (z := z) q, fun z hm _ H' F' s q => ?_, fun H2 s2 hD => ?_⟩
  · have := fix_len (F.fx z hm)
    refine ⟨_, hz z, c, z, rfl, rfl, by rw [sizeLine_eq]; omega, ?_⟩
    rw [← plus_eq]
    exact q H' fun _ _ e => e
  · rw [all_yes] at hD
    refine k D H2 s2 ?_
    show H2 D = _
    rw [hD, List.map_map]
    rfl
theorem ok_txt (T : KF P w K mg base) (F : FnP K "_law_text" sTxt f fd) : FnOk P w K mg base CX0 1 f fd ["_law_gained", "_law_lost"] spTxt := by
  refine F.ok scTxt (fun vs H Q E h => ?_) (fun cdv A outer s H vs Q E hr h => ?_)
  · obtain ⟨a, b, g, l, rfl, _⟩ := h
    rfl
  · obtain ⟨a, b, g, l, rfl, ra, rb, G, L, k⟩ := h
    have nd := scTxt.nd
    have hu := hr.units
    refine ⟨_, PSs.nox (pss_one (ps_ret (pe_ifExp (pt_cmpR (op_neD hu) (pe_op op_cat (pv 0) (pv 1)) (pe_lst pa_nil) (nomark _))
      (pe_join pe_str (pe_op op_cat (pe_lc (own := [("_law_fix", 2)]) (g := gName 2) (tt := tYes) (te := tOp rCatS (tC (.str "+")) (tVar 2)) rfl nd (pi_list (pv 0)) (blkOk_by (N := scTxt_N) (sc := defScope sTxt) (by decide +kernel)) (fun _ _ _ _ _ => pg_name (i := 2) nd rfl (.inl rfl)) (fun _ _ _ _ _ => pts_nil) (fun _ _ _ _ _ => pe_op op_add_str pe_str (pv 2)))
        (pe_lc (own := [("_law_fix", 2)]) (g := gName 2) (tt := tYes) (te := tOp rCatS (tC (.str "-")) (tVar 2)) rfl nd (pi_list (pv 1)) (blkOk_by (N := scTxt_N) (sc := defScope sTxt) (by decide +kernel)) (fun _ _ _ _ _ => pg_name (i := 2) nd rfl (.inl rfl)) (fun _ _ _ _ _ => pts_nil) (fun _ _ _ _ _ => pe_op op_add_str pe_str (pv 2)))))
      pe_str))), ?_⟩
    have g8 := G.le
    have l8 := L.le
    refine ⟨_, rfl, _, rfl, a, b, _, _, rfl, rfl, ra, rb, by rw [List.length_map, List.length_map, sizeLine_eq]; omega, fun c nc => ⟨Nat.zero_le _, fun q nq => ?_⟩⟩
    have sc' := same_new (o := .lst (g.map V.str ++ l.map V.str)) nc
    have sq := same_new (o := .lst []) nq
    have hcat : (upd H c (.lst (g.map V.str ++ l.map V.str))) c = some (.lst ((g ++ l).map V.str)) := by rw [upd_same, List.map_append]
    have s := sc'.trans sq
    refine neL (xs := g ++ l) (ys := []) (SqL.of (sq _ _ hcat)) (SqL.of upd_same) (fun x hx => fix_ok ((List.mem_append.mp hx).elim (G.fx x) (L.fx x))) (fun _ h => nomatch h) ⟨_, rfl, ?_⟩
    by_cases e : g ++ l = []
    · refine if_negB (by rw [decide_eq_true e]; rfl) ?_
      obtain ⟨e1, e2⟩ := List.append_eq_nil_iff.mp e
      have et : noteText g l = "-" := by rw [e1, e2]; rfl
      have := k _ s
      rw [et] at this
      exact this
    · refine if_posB (by rw [decide_eq_false e]; rfl) ?_
      have hz2 := told_few G L
      have te : toldL g l ≠ [] := fun z => by
        unfold toldL at z
        obtain ⟨z1, z2⟩ := List.append_eq_nil_iff.mp z
        exact e (by rw [List.map_eq_nil_iff.mp z1, List.map_eq_nil_iff.mp z2]; rfl)
      refine ⟨⟨_, rfl⟩, ?_⟩
      show tLc (iList K (tVar 0)) (gName 2) tYes (tOp rCatS (tC (.str "+")) (tVar 2)) [2] [some (.ref a), some (.ref b), none] _ (fun x H1 => tLc (iList K (tVar 1)) (gName 2) tYes (tOp rCatS (tC (.str "-")) (tVar 2)) [2] [some (.ref a), some (.ref b), none] H1 fun y H2 => rCat x y H2 _)
      refine sg_read (i := 0) rfl rfl (s _ _ ra) G (fun _ => rfl) (fun _ => rfl) fun D1 H1 s1 h1 => sg_read (i := 1) rfl rfl (s1 _ _ (s _ _ rb)) L (fun _ => rfl) (fun _ => rfl) fun D2 H2 s2 h2 => ?_
      refine ⟨D1, D2, _, _, rfl, rfl, s2 _ _ h1, h2, by rw [List.length_map, List.length_map, List.length_map, List.length_map, sizeLine_eq]; omega, fun r nr => ?_⟩
      have s3 := same_new (o := .lst ((g.map (plus "+")).map V.str ++ (l.map (plus "-")).map V.str)) nr
      have hl : (upd H2 r (.lst ((g.map (plus "+")).map V.str ++ (l.map (plus "-")).map V.str))) r = some (.lst ((toldL g l).map V.str)) := by
        rw [upd_same, ← List.map_append]
        rfl
      refine ⟨" ", r, toldL g l, rfl, rfl, .inl (SqL.of hl), ?_, ?_⟩
      · have := sum_le hz2.2
        have e1 : (" " : Str).length = 1 := rfl
        rw [e1]
        have h16 := hz2.1
        omega
      · have := k _ (s.trans (s1.trans (s2.trans s3)))
        unfold noteText at this
        rw [if_neg te] at this
        exact this
theorem c_txt (T : KF P w K mg base) : Callee P w K mg base CX0 1 "_law_text" ["_law_gained", "_law_lost"] spTxt := by
  obtain ⟨fd, F, g⟩ := T.tops ("_law_text", 47) (by decide)
  exact ⟨fd, ok_txt T F, FunD.bindsN F fun _ _ _ _ _ _ us hl => match us, hl with | [_, _], _ => rfl, F.kp, g⟩
end
end K7
set_option Elab.async false
set_option linter.all false
set_option maxRecDepth 100000
set_option maxHeartbeats 1000000
/-! Tests that change nothing; the law's own look at a fix. -/
namespace K7
open PySem PySem.Spec PyProof.Rows L2 RV EV He EF EI Kw
/-- a test that gives b and only makes new things -/
def TestR (t : TT) (σ : L2.St) (H : Hp) (b : Bool) : Prop := ∀ H1, Same H H1 → ∀ F : Bool → Hp → Prop, (∀ H', Same H1 H' → F b H') → t σ H1 F
section
variable {t u : TT} {σ : L2.St} {H : Hp} {a b : Bool} {D : Ends} {A B : TS}
theorem TestR.and (h1 : TestR t σ H a) (h2 : TestR u σ H b) : TestR (tAnd t u) σ H (a && b) := fun H1 s1 F k => h1 H1 s1 _ fun H2 s2 => by
  cases a with
  | true => exact if_posB rfl (h2 H2 (s1.trans s2) _ fun H3 s3 => k H3 (s2.trans s3))
  | false => exact if_negB rfl (k H2 s2)
theorem TestR.or (h1 : TestR t σ H a) (h2 : TestR u σ H b) : TestR (tOr t u) σ H (a || b) := fun H1 s1 F k => h1 H1 s1 _ fun H2 s2 => by
  cases a with
  | true => exact if_posB rfl (k H2 s2)
  | false => exact if_negB rfl (h2 H2 (s1.trans s2) _ fun H3 s3 => k H3 (s2.trans s3))
theorem TestR.not (h : TestR t σ H a) : TestR (tNot t) σ H (!a) := fun H1 s1 F k => h H1 s1 _ fun H2 s2 => k H2 s2
theorem TestR.ifS (h : TestR t σ H b) (ht : b = true → ∀ H', Same H H' → A D σ H') (hf : b = false → ∀ H', Same H H' → B D σ H') : tIfS t A B D σ H := h H (fun _ _ e => e) _ fun H' s => by
  cases b with
  | true => exact if_posB rfl (ht rfl H' s)
  | false => exact if_negB rfl (hf rfl H' s)
end
abbrev tHdS (i : Nat) : TE := tSl rSlS (tVar i) tNoPart (tPart (tC (V.int 1)))
section
variable {σ : L2.St} {H : Hp} {K : PySem.W.Frag} {i j : Nat} {w f : Str} {xs : List Str} {r : Addr}
theorem strB (x y : Str) : decide (V.str x = V.str y) = decide (x = y) := decide_eq_decide.mpr ⟨fun h => V.str.inj h, fun h => congrArg V.str h⟩
theorem hd_eq (c : Str) (hi : σ[i]? = some (some (.str w))) (hw : w.length ≤ 1000000) : TestR (tTest (tOp rEq (tHdS i) (tC (V.str c)))) σ H (decide (hdS w = c)) := fun H1 s1 F k => by
  refine ⟨_, hi, 1, rfl, w, rfl, by rw [sizeLine_eq]; omega, rfl, _, rfl, ?_⟩
  rw [strB]
  exact k H1 fun _ _ e => e
theorem hd_in (hi : σ[i]? = some (some (.str w))) (hw : w.length ≤ 1000000) : TestR (tTest (tOp (rIn K true) (tHdS i) (tTup (tCons (tC (V.str "+")) (tCons (tC (V.str "-")) tNil))))) σ H (!(decide (hdS w = "+") || decide (hdS w = "-"))) := fun H1 s1 F k => by
  refine ⟨_, hi, 1, rfl, w, rfl, by rw [sizeLine_eq]; omega, by show 2 ≤ sizeLine; decide, fun q nq => ⟨q, _, rfl, .inr (SqT.of upd_same), rfl, rfl, _, rfl, ?_⟩⟩
  have e : (!inV (.str (hdS w)) ((["+", "-"] : List Str).map V.str)) = !(decide (hdS w = "+") || decide (hdS w = "-")) := by
    rw [inV_str]
    by_cases h1 : hdS w = "+" <;> by_cases h2 : hdS w = "-" <;> simp [h1, h2]
  show F (!inV (.str (hdS w)) ((["+", "-"] : List Str).map V.str)) _
  rw [e]
  exact k _ (same_new nq)
theorem ne_nil (hi : σ[i]? = some (some (.ref r))) (hr : RowP H r xs) (fx : ∀ x ∈ xs, isFixB x = true) : TestR (tTest (tOp (rNeD K) (tVar i) (tLst tNil))) σ H (!decide (xs = [])) := fun H1 s1 F k => by
  refine ⟨_, hi, Nat.zero_le _, fun q nq => neL (ys := []) (SqL.of (same_new nq _ _ (s1 _ _ hr))) (SqL.of upd_same) (fun x hx => fix_ok (fx x hx)) (fun _ h => nomatch h) ⟨_, rfl, ?_⟩⟩
  exact k _ (same_new nq)
theorem in_row (hi : σ[i]? = some (some (.str f))) (hj : σ[j]? = some (some (.ref r))) (hr : RowP H r xs) : TestR (tTest (tOp (rIn K false) (tVar i) (tVar j))) σ H (decide (f ∈ xs)) := fun H1 s1 F k => by
  refine ⟨_, hi, _, hj, r, _, rfl, .inl (SqL.of (s1 _ _ hr)), rfl, flat_strs xs, _, rfl, ?_⟩
  show F (inV (.str f) (xs.map V.str)) H1
  rw [inV_str]
  exact k H1 fun _ _ e => e
theorem len_is (n : Nat) (hi : σ[i]? = some (some (.ref r))) (hr : RowP H r xs) : TestR (tTest (tOp rEq (tCB (rLenS K) (tCons (tVar i) tNil)) (tC (V.int (n : Nat))))) σ H (decide (xs.length = n)) := fun H1 s1 F k => by
  refine ⟨_, hi, r, _, rfl, .inl (SqL.of (s1 _ _ hr)), rfl, _, rfl, ?_⟩
  have e : decide (V.int ((xs.map V.str).length : Nat) = V.int (n : Nat)) = decide (xs.length = n) := decide_eq_decide.mpr ⟨fun h => by have := V.int.inj h; rw [List.length_map] at this; omega, fun h => by rw [List.length_map, h]⟩
  rw [e]
  exact k H1 fun _ _ e => e
theorem le_last (hi : σ[i]? = some (some (.str f))) (hj : σ[j]? = some (some (.ref r))) (hr : RowP H r xs) (ne : xs ≠ []) : TestR (tTest (tOp rLeS (tVar i) (tOp (rIxL K) (tVar j) tM1))) σ H (!decide (LtS (lastS xs) f)) := fun H1 s1 F k => by
  refine ⟨_, hi, _, hj, 1, rfl, r, _, -1, _, rfl, rfl, SqL.of (s1 _ _ hr), last_at ne, f, lastS xs, rfl, rfl, _, rfl, ?_⟩
  exact k H1 fun _ _ e => e
end
/-! letters -/
theorem abc_eq : (("abcdefghijklmnopqrstuvwxyz" : Str)).cps.toList = (List.range 26).map (97 + ·) := by decide +kernel
theorem abc_let (c : Nat) : decide (c ∈ (("abcdefghijklmnopqrstuvwxyz" : Str)).cps.toList) = letB c := by
  unfold letB
  rw [abc_eq, ← Bool.decide_and]
  refine decide_eq_decide.mpr ⟨fun h => ?_, fun h => ?_⟩
  · obtain ⟨n, hn, rfl⟩ := List.mem_map.mp h
    have := List.mem_range.mp hn
    omega
  · exact List.mem_map.mpr ⟨c - 97, List.mem_range.mpr (by omega), by omega⟩
theorem no_bad (cs : List Nat) : decide ((cs.filter fun c => !letB c).map one = []) = cs.all letB := by
  induction cs with
  | nil => rfl
  | cons c cs ih =>
    rw [List.filter_cons, List.all_cons]
    cases e : letB c with
    | true =>
      rw [if_neg (by decide), Bool.true_and]
      exact ih
    | false =>
      rw [if_pos (by decide)]
      rfl
abbrev rNiS : R2 := fun x y H Q => ∃ (c : Nat) (z : Str), x = .str ⟨#[c]⟩ ∧ y = .str z ∧ Q (.bl (!decide (c ∈ z.cps.toList))) H
def ttBad (j : Nat) : TT := tTest (tOp rNiS (tVar j) (tC (.str "abcdefghijklmnopqrstuvwxyz")))
theorem signs_read {σ : L2.St} {H : Hp} {Q : VK} {i j : Nat} {x : Str} (h0 : σ[i]? = some (some (.str x))) (hw : ∀ v, wipe ((wipe σ [j]).set j v) [j] = wipe σ [j]) (hi : ∀ v, ((wipe σ [j]).set j (some v))[j]? = some (some v)) (hz : x.length ≤ 1000000)
    (k : ∀ r H', Same H H' → H' r = some (.lst (((x.cps.toList.filter fun c => !letB c).map one).map V.str)) → Q (.ref r) H') : tLc (iStr (tVar i)) (gName j) (ttBad j) (tVar j) [j] σ H Q := by
  refine ⟨_, h0, x, rfl, fun D nD => lc_it walk_str (fun n H' => Same H H' ∧ H' D = some (.lst ((((x.cps.toList.take n).filter fun c => !letB c).map one).map V.str))) ⟨fun c o e => ?_, upd_same⟩ (fun _ _ _ _ => trivial) ?_ ?_⟩
  · rw [upd_ne (ne_of_none e nD)]
    exact e
  · rintro n v H1 H2 hn ⟨s1, hD⟩ ⟨rfl, c, hc, rfl⟩
    have hc2 : x.cps.toList[n]? = some c := by rw [Array.getElem?_toList]; exact hc
    obtain ⟨hl, hv⟩ := List.getElem?_eq_some_iff.mp hc2
    have more : x.cps.toList.take (n + 1) = x.cps.toList.take n ++ [c] := by
      rw [← hv]
      exact List.take_succ_eq_append_getElem hl
    refine ⟨hw _, _, hi _, c, "abcdefghijklmnopqrstuvwxyz", rfl, rfl, _, rfl, ?_⟩
    rw [abc_let, more, List.filter_append, List.map_append, List.map_append]
    cases e : letB c with
    | true =>
      refine if_negB rfl ⟨s1, ?_⟩
      rw [List.filter_cons, if_neg (by rw [e]; decide)]
      simpa using hD
    | false =>
      refine if_posB rfl ⟨_, hi _, _, hD, ?_, ?_, ?_⟩
      · have h1 : x.cps.toList.length = x.length := by simp [Str.length]
        have h2 := List.length_filter_le (fun c => !letB c) (x.cps.toList.take n)
        rw [List.length_take] at h2
        rw [List.length_map, List.length_map, sizeLine_eq]
        omega
      · intro d o hd
        rw [upd_ne (ne_of_none hd nD)]
        exact s1 _ _ hd
      · rw [List.filter_cons, if_pos (by rw [e]; rfl)]
        exact upd_same
  · rintro H1 ⟨s1, hD⟩
    rw [List.take_of_length_le (by simp)] at hD
    exact k D H1 s1 hD
end K7
set_option Elab.async false
set_option linter.all false
set_option maxRecDepth 100000
set_option maxHeartbeats 1000000
/-! _law_due. -/
namespace K7
open PySem PySem.Spec PyProof.Rows L2 RV EV He EF EI Kw
structure TextOk (z : Str) : Prop where
  le : z.length ≤ 900
  ok : ∀ c ∈ z.cps.toList, c < 0x110000
theorem join_signs : ∀ (ws : List Str) (sep x : Str), x ∈ ws → ∀ c ∈ x.cps.toList, c ∈ (Str.join sep ws).cps.toList
  | [], _, _, h => nomatch h
  | [y], sep, x, h => by
    rw [List.mem_singleton.mp h]
    exact fun c hc => hc
  | y :: z :: r, sep, x, h => by
    intro c hc
    have e : (Str.join sep (y :: z :: r)).cps.toList = (y.cps.toList ++ sep.cps.toList) ++ (Str.join sep (z :: r)).cps.toList := by
      show ((y.cps ++ sep.cps) ++ (Str.join sep (z :: r)).cps).toList = _
      rw [Array.toList_append, Array.toList_append]
    rw [e]
    rcases List.mem_cons.mp h with h | h
    · rw [h] at hc
      exact List.mem_append_left _ (List.mem_append_left _ hc)
    · exact List.mem_append_right _ (join_signs (z :: r) sep x h c hc)
theorem word_ok {z x : Str} (t : TextOk z) (h : x ∈ Txt.split z " ") : TextOk x := by
  refine ⟨Nat.le_trans (words_len h) t.le, fun c hc => t.ok c ?_⟩
  have := join_signs _ " " x h c hc
  rw [← TL.join_eq, join_words] at this
  exact this
/-- the law's own reckoning says the same -/
theorem due_can {g l : List Str} {w : Str} (G : GL g l) :
    canB g l w = !((!(decide (hdS w = "+") || decide (hdS w = "-")) || (!isFixB (tlS w) || (decide (hdS w = "+") && !decide (l = [])))) ||
      ((!decide ((if decide (hdS w = "+") = true then g else l) = []) && !decide (LtS (lastS (if decide (hdS w = "+") = true then g else l)) (tlS w))) || ((decide (hdS w = "-") && decide (tlS w ∈ g)) || decide ((if decide (hdS w = "+") = true then g else l).length = 8)))) := by
  have hg := G.lg
  have hl := G.ll
  have e8 : ∀ {n : Nat}, n ≤ 8 → decide (n < 8) = !decide (n = 8) := fun {n} h => by
    by_cases q : n = 8
    · rw [decide_eq_true q]; exact decide_eq_false (by omega)
    · rw [decide_eq_false q]; exact decide_eq_true (by omega)
  have em : ∀ (xs : List Str), xs.isEmpty = decide (xs = []) := fun xs => by cases xs <;> simp
  unfold canB
  rw [plus_hd, minus_hd, e8 hg, e8 hl, em g, em l]
  by_cases p : hdS w = "+"
  · have m : hdS w ≠ "-" := fun z => by rw [p] at z; exact absurd z (by decide +kernel)
    rw [decide_eq_true p, decide_eq_false m]
    simp only [eq_self_iff_true, if_true]
    cases isFixB (tlS w) <;> cases decide (l = []) <;> cases decide (g.length = 8) <;> cases decide (g = []) <;> cases decide (LtS (lastS g) (tlS w)) <;> rfl
  · rw [decide_eq_false p]
    simp only [Bool.false_eq_true, if_false]
    cases isFixB (tlS w) <;> cases decide (hdS w = "-") <;> cases decide (tlS w ∈ g) <;> cases decide (l.length = 8) <;> cases decide (l = []) <;> cases decide (LtS (lastS l) (tlS w)) <;> rfl
abbrev sDue : Stmt := top 48
abbrev scDue_N : List Str := ["_law_text_here", "_law_words", "_law_gained", "_law_lost", "_law_at", "_law_word", "_law_fix", "_law_row", "_law_is_fix", "_law_sign"]
theorem scDue : FnScope scDue_N ["_law_text_here"] (defScope sDue) := ⟨rfl, rfl, rfl, by decide +kernel, rfl, by decide +kernel, by decide +kernel⟩
def spDue (K : PySem.W.Frag) : Sp := fun vs H Q _ => ∃ z, vs = [.str z] ∧ TextOk z ∧ (∀ g l, readF (Txt.split z " ") = .inl (g, l) → ∀ L t ga la H', Same H H' → H' L = some (.lst [.ref t]) → H' t = some (.tup [.ref ga, .ref la]) → RowP H' ga g → RowP H' la l → Q (.ref L) H') ∧
  (∀ i, readF (Txt.split z " ") = .inr i → ∀ t H', Same H H' → H' t = some (.tup [.int 0, .int (i : Nat)]) → Q (.ref t) H')
theorem TestR.andD {t u : TT} {σ : L2.St} {H : Hp} {a b : Bool} (h1 : TestR t σ H a) (h2 : a = true → TestR u σ H b) : TestR (tAnd t u) σ H (a && b) := fun H1 s1 F k => h1 H1 s1 _ fun H2 s2 => by
  cases a with
  | true => exact if_posB rfl (h2 rfl H2 (s1.trans s2) _ fun H3 s3 => k H3 (s2.trans s3))
  | false => exact if_negB rfl (k H2 s2)
theorem var_is {σ : L2.St} {H : Hp} {i : Nat} {b : Bool} (hi : σ[i]? = some (some (.bl b))) : TestR (tB (tVar i)) σ H b := fun H1 _ F k => ⟨_, hi, b, rfl, k H1 fun _ _ e => e⟩
abbrev rLeI : R2 := rI0 fun i j => V.bl (decide (i ≤ j))
abbrev rLenT : List V → Hp → VK → Prop := fun xs H Q => ∃ z : Str, xs = [V.str z] ∧ z.length ≤ sizeLine ∧ Q (V.int (z.length : Nat)) H
def tFixV (K : PySem.W.Frag) : TE := tAndV (tChain rLeI rLeI (tC (V.int 1)) (tCB rLenT (tCons (tVar 6) tNil)) (tC (V.int 8))) (tOp (rEqD K) (tLc (iStr (tVar 6)) (gName 9) (ttBad 9) (tVar 9) [9]) (tLst tNil))
theorem fixV_read {K : PySem.W.Frag} {σ : L2.St} {H : Hp} {Q : VK} {x : Str} (h6 : σ[6]? = some (some (.str x))) (ok : TextOk x) (hw : ∀ v, wipe ((wipe σ [9]).set 9 v) [9] = wipe σ [9]) (hi : ∀ v, ((wipe σ [9]).set 9 (some v))[9]? = some (some v)) (k : ∀ H', Same H H' → Q (.bl (isFixB x)) H') : tFixV K σ H Q := by
  have hz := ok.le
  have id : Same H H := fun _ _ e => e
  have k0 := k H id
  refine ⟨_, h6, x, rfl, by rw [sizeLine_eq]; omega, 1, _, rfl, rfl, _, rfl, ?_⟩
  by_cases h1 : (1 : Int) ≤ (x.length : Int)
  · refine if_posB (decide_eq_true h1) ⟨_, 8, rfl, rfl, _, rfl, ?_⟩
    by_cases h2 : (x.length : Int) ≤ 8
    · refine if_posB (decide_eq_true h2) ?_
      show tLc (iStr (tVar 6)) (gName 9) (ttBad 9) (tVar 9) [9] σ H fun r H1 => tLst tNil σ H1 fun y H2 => rEqD K r y H2 Q
      refine signs_read h6 hw hi (by omega) fun r H1 s1 R => ⟨Nat.zero_le _, fun q nq => ?_⟩
      have s2 := same_new (o := .lst []) nq
      refine eqL (ys := []) (SqL.of (s2 _ _ R)) (SqL.of upd_same) (fun y hy => ?_) (fun _ h => nomatch h) ?_
      · obtain ⟨c, hc, rfl⟩ := List.mem_map.mp hy
        have := ok.ok c (List.mem_filter.mp hc).1
        show PyData.strOk (one c) = true
        unfold PyData.strOk one
        simpa using this
      · rw [no_bad]
        have k2 := k _ (s1.trans s2)
        unfold isFixB at k2
        rw [decide_eq_true h1, decide_eq_true h2, Bool.true_and, Bool.true_and] at k2
        exact k2
    · refine if_negB (decide_eq_false h2) ?_
      unfold isFixB at k0
      rw [decide_eq_false h2, Bool.false_and, Bool.and_false] at k0
      exact k0
  · refine if_negB (decide_eq_false h1) ⟨_, rfl, if_negB rfl ?_⟩
    unfold isFixB at k0
    rw [decide_eq_false h1, Bool.false_and] at k0
    exact k0
abbrev tPos : TS := tRet (tTup (tCons (tC (V.int 0)) (tCons (tVar 4) tNil)))
abbrev tPair : TS := tRet (tLst (tCons (tTup (tCons (tVar 2) (tCons (tVar 3) tNil))) tNil))
def tDuA : TS := tPar 6 7 (tCons (tSl rSlS (tVar 5) (tPart (tC (V.int 1))) tNoPart) (tCons (tIf (tTest (tOp rEq (tHdS 5) (tC (V.str "+")))) (tVar 2) (tVar 3)) tNil))
def tDuC (K : PySem.W.Frag) : TS := tIfS (tOr (tTest (tOp (rIn K true) (tHdS 5) (tTup (tCons (tC (V.str "+")) (tCons (tC (V.str "-")) tNil))))) (tOr (tNot (tB (tVar 8))) (tAnd (tTest (tOp rEq (tHdS 5) (tC (V.str "+")))) (tTest (tOp (rNeD K) (tVar 3) (tLst tNil)))))) tPos tNext
def tDuD (K : PySem.W.Frag) : TS := tIfS (tOr (tAnd (tTest (tOp (rNeD K) (tVar 7) (tLst tNil))) (tTest (tOp rLeS (tVar 6) (tOp (rIxL K) (tVar 7) tM1)))) (tOr (tAnd (tTest (tOp rEq (tHdS 5) (tC (V.str "-")))) (tTest (tOp (rIn K false) (tVar 6) (tVar 2))))
  (tTest (tOp rEq (tCB (rLenS K) (tCons (tVar 7) tNil)) (tC (V.int 8)))))) tPos tNext
abbrev tDuE (K : PySem.W.Frag) : TS := tDrop (tBM K "list" rAppend (tVar 7) (tCons (tVar 6) tNil))
def tDuB (K : PySem.W.Frag) : TS := tSeq tDuA (tSeq (tAsg (tFixV K) (gName 8)) (tSeq (tDuC K) (tSeq (tDuD K) (tDuE K))))
def tDuL (K : PySem.W.Frag) : TS := tFor (iEnum K (tCons (tVar 1) tNil)) (gTup K 2 (gCons (gName 4) (gCons (gName 5) gNil))) (tDuB K)
theorem du_turn {K : PySem.W.Frag} {H : Hp} {D : Ends} {z : Str} {W ga la : Addr} {a6 a7 a8 : Option V} {w : Str} {i : Nat} {gs ls : List Str} (ok : TextOk w) (rg : RowP H ga gs) (rl : RowP H la ls) (G : GL gs ls) (ngl : ga ≠ la)
    (bad : canB gs ls w = false → ∀ t H', Same H H' → H' t = some (.tup [.int 0, .int (i : Nat)]) → D.rt (.ref t) H')
    (good : canB gs ls w = true → ∀ a7 a8 gs' ls' H', (∀ c o, c ≠ ga → c ≠ la → H c = some o → H' c = some o) → RowP H' ga gs' → RowP H' la ls' → (plusB w = true → gs' = gs ++ [tlS w] ∧ ls' = ls) → (plusB w = false → gs' = gs ∧ ls' = ls ++ [tlS w]) →
      D.nx [some (.str z), some (.ref W), some (.ref ga), some (.ref la), some (.int (i : Nat)), some (.str w), some (.str (tlS w)), a7, a8, none] H') :
    tDuB K D [some (.str z), some (.ref W), some (.ref ga), some (.ref la), some (.int (i : Nat)), some (.str w), a6, a7, a8, none] H := by
  have hz := ok.le
  have okf : TextOk (tlS w) := ⟨Nat.le_trans (len_tlS w) hz, fun c hc => ok.ok c (by rw [cps_tl] at hc; exact List.mem_of_mem_drop hc)⟩
  have dc := due_can (w := w) G
  have key : ∀ H1, Same H H1 → tSeq (tAsg (tFixV K) (gName 8)) (tSeq (tDuC K) (tSeq (tDuD K) (tDuE K))) D [some (.str z), some (.ref W), some (.ref ga), some (.ref la), some (.int (i : Nat)), some (.str w), some (.str (tlS w)), some (.ref (if decide (hdS w = "+") = true then ga else la)), a8, none] H1 := by
    intro H1 s1
    generalize er : (if decide (hdS w = "+") = true then ga else la) = row
    generalize exs : (if decide (hdS w = "+") = true then gs else ls) = xs at dc
    have rr : ∀ H', Same H1 H' → RowP H' row xs := fun H' s => by
      rw [← er, ← exs]
      by_cases p : decide (hdS w = "+") = true
      · rw [if_pos p, if_pos p]
        exact s _ _ (s1 _ _ rg)
      · rw [if_neg p, if_neg p]
        exact s _ _ (s1 _ _ rl)
    have fx : ∀ x ∈ xs, isFixB x = true := by
      rw [← exs]
      by_cases p : decide (hdS w = "+") = true
      · rw [if_pos p]; exact G.fg
      · rw [if_neg p]; exact G.fl
    have lx : xs.length ≤ 8 := by
      rw [← exs]
      by_cases p : decide (hdS w = "+") = true
      · rw [if_pos p]; exact G.lg
      · rw [if_neg p]; exact G.ll
    refine fixV_read (σ := [some (.str z), some (.ref W), some (.ref ga), some (.ref la), some (.int (i : Nat)), some (.str w), some (.str (tlS w)), some (.ref row), a8, none]) rfl okf (fun _ => rfl) (fun _ => rfl) fun H2 s2 => ?_
    have s12 := s1.trans s2
    show tSeq (tDuC K) (tSeq (tDuD K) (tDuE K)) D [some (.str z), some (.ref W), some (.ref ga), some (.ref la), some (.int (i : Nat)), some (.str w), some (.str (tlS w)), some (.ref row), some (.bl (isFixB (tlS w))), none] H2
    refine TestR.ifS (TestR.or (hd_in (i := 5) rfl (by omega)) (TestR.or (TestR.not (var_is (i := 8) rfl)) (TestR.and (hd_eq (i := 5) "+" rfl (by omega)) (ne_nil (i := 3) rfl (s12 _ _ rl) G.fl)))) (fun e H3 s3 => ?_) fun e H3 s3 => ?_
    · rw [e, Bool.true_or] at dc
      exact ⟨_, rfl, by show 2 ≤ sizeLine; decide, fun t nt => bad dc t _ (s12.trans (s3.trans (same_new nt))) upd_same⟩
    · rw [e, Bool.false_or] at dc
      have s13 := s12.trans s3
      refine TestR.ifS (TestR.or (TestR.andD (ne_nil (i := 7) rfl (rr _ (s2.trans s3)) fx) fun ne => le_last (i := 6) (j := 7) rfl rfl (rr _ (s2.trans s3)) (of_decide_eq_false (Bool.not_eq_true' _ ▸ ne))) (TestR.or (TestR.and (hd_eq (i := 5) "-" rfl (by omega)) (in_row (i := 6) (j := 2) rfl rfl (s13 _ _ rg))) (len_is (i := 7) 8 rfl (rr _ (s2.trans s3))))) (fun e2 H4 s4 => ?_) fun e2 H4 s4 => ?_
      · rw [e2] at dc
        exact ⟨_, rfl, by show 2 ≤ sizeLine; decide, fun t nt => bad dc t _ (s13.trans (s4.trans (same_new nt))) upd_same⟩
      · rw [e2] at dc
        have s14 := s13.trans s4
        have r4 := rr _ (s2.trans (s3.trans s4))
        refine ⟨_, rfl, .inl ⟨rfl, _, SqL.of r4⟩, _, rfl, row, _, _, rfl, rfl, r4, by rw [List.length_map, sizeLine_eq]; omega, ?_⟩
        have ap : (upd H4 row (.lst (xs.map V.str ++ [V.str (tlS w)]))) row = some (.lst ((xs ++ [tlS w]).map V.str)) := by rw [upd_same, List.map_append]; rfl
        by_cases p : decide (hdS w = "+") = true
        · rw [if_pos p] at er exs
          subst er
          subst exs
          exact good dc _ _ (gs ++ [tlS w]) ls _ (fun c o h1 h2 q => by rw [upd_ne h1]; exact s14 _ _ q) ap (by show upd _ _ _ la = _; rw [upd_ne ngl.symm]; exact s14 _ _ rl) (fun _ => ⟨rfl, rfl⟩) (fun q => by rw [plus_hd] at q; rw [q] at p; cases p)
        · rw [if_neg p] at er exs
          subst er
          subst exs
          exact good dc _ _ gs (ls ++ [tlS w]) _ (fun c o h1 h2 q => by rw [upd_ne h2]; exact s14 _ _ q) (by show upd _ _ _ ga = _; rw [upd_ne ngl]; exact s14 _ _ rg) ap (fun q => by rw [plus_hd] at q; exact absurd q p) (fun _ => ⟨rfl, rfl⟩)
  refine ⟨_, rfl, 1, rfl, w, rfl, by rw [sizeLine_eq]; omega, ?_⟩
  refine (hd_eq (i := 5) "+" rfl (by omega)) H (fun _ _ e => e) _ fun H1 s1 => ?_
  have kk := key H1 s1
  by_cases p : decide (hdS w = "+") = true
  · rw [if_pos p] at kk
    exact if_posB p ⟨_, rfl, _, _, rfl, kk⟩
  · rw [if_neg p] at kk
    exact if_negB (Bool.not_eq_true _ ▸ p) ⟨_, rfl, _, _, rfl, kk⟩
section
variable {P : Program} {w : World} {K : PySem.W.Frag} {mg : Str → Option Value} {base : Heap} {f : Addr} {fd : FuncData}
theorem ok_due (T : KF P w K mg base) (F : FnP K "_law_due" sDue f fd) : FnOk P w K mg base CX0 1 f fd ["_law_text_here"] (spDue K) := by
  refine F.ok scDue (fun vs H Q E h => ?_) (fun cdv A outer s H vs Q E hr h => ?_)
  · obtain ⟨z, rfl, _⟩ := h
    rfl
  · obtain ⟨z, rfl, ok, good, bad⟩ := h
    have nd := scDue.nd
    have hu := hr.units
    refine ⟨_, PSs.nox (pss_cons (ps_par3 (i := 1) (j := 2) (l := 3) rfl nd rfl rfl rfl (by decide) (by decide) (by decide) rfl rfl rfl (pa_cons (pe_split (pv 0) pe_str) (pa_cons (pe_lst pa_nil) (pa_cons (pe_lst pa_nil) pa_nil))) (by rfl))
      (pss_cons (ps_if (pt_cmpR op_eq (pe_ix ix_list (pv 1) pe_int (fun _ _ => rfl)) pe_str (nomark _)) (pss_one (ps_ret (pe_ifExp (pt_cmpR op_eq (pe_callB call_len_seq (by rfl) (T.fr "len" (by decide)) PySem.boot_len (pa_cons (pv 1) pa_nil)) pe_int (nomark _)) (pe_lst (pa_cons (pe_tup (pa_cons (pv 2) (pa_cons (pv 3) pa_nil))) pa_nil)) (pe_tup (pa_cons pe_int (pa_cons pe_int pa_nil)))))) pss_nil)
      (pss_cons (ps_for PassesOwn.never rfl (pi_enum (by rfl) (T.fr "enumerate" (by decide)) (pa_cons (pv 1) pa_nil)) (pg_tup (by rfl) (pgs_cons (pg_name (i := 4) nd rfl (.inl rfl)) (pgs_cons (pg_name (i := 5) nd rfl (.inl rfl)) pgs_nil)))
        (pss_cons (ps_par (i := 6) (j := 7) rfl nd rfl rfl (by decide) rfl rfl (pa_cons (pe_slice sl_str (pv 5) (po_some pe_int) po_none) (pa_cons (pe_ifExp (pt_cmpR op_eq (pe_slice sl_str (pv 5) po_none (po_some pe_int)) pe_str (nomark _)) (pv 2) (pv 3)) pa_nil)) (by rfl))
        (pss_cons (ps_set (i := 8) nd rfl (.inl rfl) (pe_and (pe_chain op_le op_le pe_int (pe_callB call_len_str (by rfl) (T.fr "len" (by decide)) PySem.boot_len (pa_cons (pv 6) pa_nil)) pe_int)
          (pe_one (pe_cmpR (op_eqD hu) (pe_lc (own := [("_law_sign", 9)]) (g := gName 9) (tt := ttBad 9) (te := tVar 9) rfl nd (pi_str (pv 6)) (blkOk_by (N := scDue_N) (sc := defScope sDue) (by decide +kernel))
            (fun _ _ _ _ _ => pg_name (i := 9) nd rfl (.inl rfl)) (fun _ _ _ _ _ => pts_one (pt_cmpR op_notIn_sign (pv 9) pe_str rfl)) (fun _ _ _ _ _ => pv 9)) (pe_lst pa_nil) (nomark _)))))
        (pss_cons (ps_if (PW.pt (pw_or (pt_cmpR op_notIn_seq (pe_slice sl_str (pv 5) po_none (po_some pe_int)) (pe_tup (pa_cons pe_str (pa_cons pe_str pa_nil))) rfl) (pw_or (pt_not (pt_val (pv 8)))
            (pw_or1 (PW.pt (pw_and (pt_cmpR op_eq (pe_slice sl_str (pv 5) po_none (po_some pe_int)) pe_str (nomark _)) (pw_and1 (pt_cmpR (op_neD hu) (pv 3) (pe_lst pa_nil) (nomark _))))))))) (pss_one (ps_ret (pe_tup (pa_cons pe_int (pa_cons (pv 4) pa_nil))))) pss_nil)
        (pss_cons (ps_if (PW.pt (pw_or (PW.pt (pw_and (pt_cmpR (op_neD hu) (pv 7) (pe_lst pa_nil) (nomark _)) (pw_and1 (pt_cmpR op_le_str (pv 6) (pe_ix ix_list (pv 7) (pe_un un_neg pe_int) (fun _ _ => rfl)) (nomark _)))))
            (pw_or (PW.pt (pw_and (pt_cmpR op_eq (pe_slice sl_str (pv 5) po_none (po_some pe_int)) pe_str (nomark _)) (pw_and1 (pt_cmpR op_in_seq (pv 6) (pv 2) rfl))))
            (pw_or1 (pt_cmpR op_eq (pe_callB call_len_seq (by rfl) (T.fr "len" (by decide)) PySem.boot_len (pa_cons (pv 7) pa_nil)) pe_int (nomark _)))))) (pss_one (ps_ret (pe_tup (pa_cons pe_int (pa_cons (pv 4) pa_nil))))) pss_nil)
        (pss_one (ps_expr (pe_bm PySem.F.plainAttrs_list PySem.F.slot_list_append PySem.F.type_list_append mt_append (pv 7) (pa_cons (pv 6) pa_nil)))))))))
      (pss_one (ps_ret (pe_lst (pa_cons (pe_tup (pa_cons (pv 2) (pa_cons (pv 3) pa_nil))) pa_nil))))))), ?_⟩
    have hz := ok.le
    refine ⟨_, rfl, ⟨_, rfl⟩, z, " ", rfl, rfl, by decide +kernel, by rw [sizeLine_eq]; omega, fun W nW => ⟨Nat.zero_le _, fun ga nga => ⟨Nat.zero_le _, fun la nla => ⟨_, _, _, rfl, ?_⟩⟩⟩⟩
    have hW : (upd H W (.lst ((Txt.split z " ").map V.str))) W = some (.lst ((Txt.split z " ").map V.str)) := upd_same
    have s1 := same_new (o := .lst ((Txt.split z " ").map V.str)) nW
    have s2 := same_new (o := .lst []) nga
    have s3 := same_new (o := .lst []) nla
    have hW3 := s3 _ _ (s2 _ _ hW)
    have nWg : W ≠ ga := ne_of_none hW nga
    have nWl : W ≠ la := ne_of_none (s2 _ _ hW) nla
    have ngl : ga ≠ la := ne_of_none upd_same nla
    have sA := s1.trans (s2.trans s3)
    have back : ∀ {H' : Hp}, (∀ c o, c ≠ ga → c ≠ la → (upd (upd (upd H W (.lst ((Txt.split z " ").map V.str))) ga (.lst [])) la (.lst [])) c = some o → H' c = some o) → Same H H' := fun {H'} q c o e =>
      q c o (ne_of_none (s1 c o e) nga) (ne_of_none (s2 _ _ (s1 c o e)) nla) (sA c o e)
    have h0 : (Txt.split z " ")[0]? = some ((Txt.split z " ").getD 0 "") := getD_at (List.length_pos_iff.mpr (split_some z))
    have rg0 : RowP (upd (upd (upd H W (.lst ((Txt.split z " ").map V.str))) ga (.lst [])) la (.lst [])) ga [] := s3 _ _ upd_same
    have rl0 : RowP (upd (upd (upd H W (.lst ((Txt.split z " ").map V.str))) ga (.lst [])) la (.lst [])) la [] := upd_same
    have pair : ∀ (σ : L2.St) (gs ls : List Str) (H' : Hp), σ[2]? = some (some (.ref ga)) → σ[3]? = some (some (.ref la)) → readF (Txt.split z " ") = .inl (gs, ls) → Same H H' → RowP H' ga gs → RowP H' la ls → tLst (tCons (tTup (tCons (tVar 2) (tCons (tVar 3) tNil))) tNil) σ H' Q := by
      intro σ gs ls H' e2 e3 er s rg rl
      refine ⟨_, e2, _, e3, by show 2 ≤ sizeLine; decide, fun t nt => ⟨by show 1 ≤ sizeLine; decide, fun L nL => ?_⟩⟩
      have st := same_new (o := .tup [V.ref ga, V.ref la]) nt
      have sL := same_new (o := .lst [V.ref t]) nL
      exact good gs ls er L t ga la _ (s.trans (st.trans sL)) upd_same (sL _ _ upd_same) (sL _ _ (st _ _ rg)) (sL _ _ (st _ _ rl))
    refine ⟨_, rfl, W, _, 0, .str ((Txt.split z " ").getD 0 ""), rfl, rfl, SqL.of hW3, atI_nat (j := 0) (by rw [List.getElem?_map, h0]; rfl), rfl, _, rfl, ?_⟩
    by_cases hd : (Txt.split z " ").getD 0 "" = "-"
    · refine if_posB (decide_eq_true (congrArg V.str hd)) ?_
      refine (len_is (K := K) (i := 1) 1 rfl hW3) _ (fun _ _ e => e) _ fun H' s => ?_
      by_cases h1 : (Txt.split z " ").length = 1
      · refine if_posB (decide_eq_true h1) (pair _ [] [] H' rfl rfl ?_ (sA.trans s) (s _ _ rg0) (s _ _ rl0))
        unfold readF
        rw [if_pos hd, if_neg (by omega)]
      · refine if_negB (decide_eq_false h1) ⟨by show 2 ≤ sizeLine; decide, fun t nt => bad 1 ?_ t _ (sA.trans (s.trans (same_new nt))) upd_same⟩
        have := List.length_pos_iff.mpr (split_some z)
        unfold readF
        rw [if_pos hd, if_pos (by omega)]
    · have er : readF (Txt.split z " ") = goR (Txt.split z " ") [] [] 0 := by
        unfold readF
        rw [if_neg hd]
      refine if_negB (decide_eq_false fun q => hd (V.str.inj q)) ?_
      show tSeq (tDuL K) tPair { nx := fun _ H' => Q .non H', rt := Q } [some (.str z), some (.ref W), some (.ref ga), some (.ref la), none, none, none, none, none, none] _
      refine ⟨_, rfl, W, _, rfl, SqL.of hW3, ?_⟩
      refine for_it (walk_enum (K := K) (a := W) (xs := (Txt.split z " ").map V.str)) (g := gTup K 2 (gCons (gName 4) (gCons (gName 5) gNil))) (tb := tDuB K) (D := { nx := fun σ H' => tPair { nx := fun _ H' => Q .non H', rt := Q } σ H', rt := Q })
        (fun i σ' H' => ∃ a4 a5 a6 a7 a8 gs ls, σ' = [some (.str z), some (.ref W), some (.ref ga), some (.ref la), a4, a5, a6, a7, a8, none] ∧ (∀ c o, c ≠ ga → c ≠ la → (upd (upd (upd H W (.lst ((Txt.split z " ").map V.str))) ga (.lst [])) la (.lst [])) c = some o → H' c = some o) ∧ RowP H' ga gs ∧ RowP H' la ls ∧ GL gs ls ∧ goR ((Txt.split z " ").drop i) gs ls i = goR (Txt.split z " ") [] [] 0)
        ⟨none, none, none, none, none, [], [], rfl, (fun _ _ _ _ e => e), rg0, rl0, gl_nil, rfl⟩ (fun i σ' H' _ ⟨_, _, _, _, _, _, _, _, s, _⟩ => SqL.of (s _ _ nWg nWl hW3)) ?_ ?_
      · rintro i x σ' H1 H2 hi ⟨a4, a5, a6, a7, a8, gs, ls, rfl, s, rg, rl, G, e⟩ ⟨t, x0, y0, rfl, nt, rfl, e1, e2⟩
        rw [List.length_map] at hi
        have hw : (Txt.split z " ")[i]? = some ((Txt.split z " ").getD i "") := getD_at hi
        have e2 : ((Txt.split z " ").map V.str)[i]? = some y0 := e2
        rw [List.getElem?_map, hw] at e2
        cases e2
        cases e1
        have hm : (Txt.split z " ").getD i "" ∈ Txt.split z " " := List.mem_of_getElem? hw
        have hdr : (Txt.split z " ").drop i = (Txt.split z " ").getD i "" :: (Txt.split z " ").drop (i + 1) := by
          rw [List.drop_eq_getElem_cons hi]
          congr 1
          first
            | done
            | exact (Option.some.inj ((List.getElem?_eq_getElem hi).symm.trans hw))
        rw [hdr, goR_step] at e
        have st := same_new (o := .tup [V.int (i : Nat), V.str ((Txt.split z " ").getD i "")]) nt
        refine ⟨t, _, rfl, SqT.of upd_same, rfl, _, _, rfl, _, _, rfl, rfl, ?_⟩
        refine du_turn (z := z) (W := W) (i := i) (word_ok ok hm) (st _ _ rg) (st _ _ rl) G ngl (fun c t2 H' s' ht => ?_) fun c b7 b8 gs' ls' H' s' rg' rl' hp hn => ?_
        · rw [c, if_neg Bool.false_ne_true] at e
          exact bad i (er.trans e.symm) t2 H' ((back s).trans (st.trans s')) ht
        · rw [c, if_pos rfl] at e
          have sS : ∀ c o, c ≠ ga → c ≠ la → (upd (upd (upd H W (.lst ((Txt.split z " ").map V.str))) ga (.lst [])) la (.lst [])) c = some o → H' c = some o := fun c o h1 h2 q => s' c o h1 h2 (st _ _ (s c o h1 h2 q))
          cases p : plusB ((Txt.split z " ").getD i "") with
          | true =>
            obtain ⟨rfl, rfl⟩ := hp p
            rw [p, if_pos rfl] at e
            exact ⟨_, _, _, _, _, _, _, rfl, sS, rg', rl', (gl_plus G c p).1, e⟩
          | false =>
            obtain ⟨rfl, rfl⟩ := hn p
            rw [p, if_neg Bool.false_ne_true] at e
            exact ⟨_, _, _, _, _, _, _, rfl, sS, rg', rl', (gl_minus G c p).1, e⟩
      · rintro σ' H1 ⟨a4, a5, a6, a7, a8, gs, ls, rfl, s, rg, rl, G, e⟩
        rw [List.length_map, List.drop_length] at e
        exact pair _ gs ls H1 rfl rfl (er.trans e.symm) (back s) rg rl
theorem c_due (T : KF P w K mg base) : Callee P w K mg base CX0 1 "_law_due" ["_law_text_here"] (spDue K) := by
  obtain ⟨fd, F, g⟩ := T.tops ("_law_due", 48) (by decide)
  exact ⟨fd, ok_due T F, FunD.bindsN F fun _ _ _ _ _ _ us hl => match us, hl with | [_], _ => rfl, F.kp, g⟩
end
end K7
set_option Elab.async false
set_option linter.all false
set_option maxRecDepth 100000
set_option maxHeartbeats 1000000
/-! _law_read_right. -/
namespace K7
open PySem PySem.Spec PyProof.Rows L2 RV EV He EF EI Hd LamX Kw
def tHd (K : PySem.W.Frag) (t : XK → TE) : TE := tLam (TL K) (TTh K) t
abbrev tRdE (K : PySem.W.Frag) : XK → TE := fun E' => Oo.tSMeth (gNo K) (spNr K) E' (tC (V.ref (gNo K))) (tCons (tVar 0) tNil)
def tNoteOf (K : PySem.W.Frag) (i j : Nat) : TE := tMake (gNo K) (spNoI K) [] E0 (tCons (tCall (spLlot K) [] E0 (tCons (tVar i) tNil)) (tCons (tCall (spLlot K) [] E0 (tCons (tVar j) tNil)) tNil))
abbrev tEqN (K : PySem.W.Frag) (a b : TE) : TE := tOp (Oo.rOwn2 K (gNo K) (fun t => PySem.W.notFirst K (gNo K) t = true) (spEqN K) E0) a b
abbrev tSoN (K : PySem.W.Frag) (a : TE) : TE := tCB (Oo.rStrO (gNo K) (spStN K) E0) (tCons a tNil)
abbrev tH0 (K : PySem.W.Frag) : TE := tOp (rIxL K) (tVar 1) (tC (V.int 0))
abbrev tIsLi (K : PySem.W.Frag) (i : Nat) : TE := tCB (rIsi K) (tCons (tVar i) (tCons (tC (V.ty "list")) tNil))
def tR1 (K : PySem.W.Frag) : TS := tPar 1 2 (tCons (tHd K (tRdE K)) (tCons (tCall (spDue K) [] E0 (tCons (tVar 0) tNil)) tNil))
def tR2 (K : PySem.W.Frag) : TS := tIfS (tB (tIsLi K 2)) (tSeq (tAsg (tOp (rIxL K) (tVar 2) (tC (V.int 0))) (gTup K 2 (gCons (gName 3) (gCons (gName 4) gNil)))) (tRet (tAndV (tIsLi K 1) (tAndV (tEqN K (tH0 K) (tNoteOf K 3 4)) (tOp rEq (tSoN K (tH0 K)) (tVar 0)))))) tNext
def tR3 (K : PySem.W.Frag) : TS := tRet (tOp (rEqD K) (tVar 1) (tVar 2))
def tRr (K : PySem.W.Frag) : TS := tSeq (tR1 K) (tSeq (tR2 K) (tR3 K))
theorem Same.extN' {H H' : Hp} (s : Same H H') : ExtN H H' := fun c o e _ => s c o e
theorem IsNote.extN {K : PySem.W.Frag} {H H' : Hp} {p : Addr} {ga lo : List Str} (o : IsNote K H p ga lo) (s : ExtN H H') : IsNote K H' p ga lo := by
  obtain ⟨dx, g, l, N⟩ := o
  obtain ⟨dg, tg, G⟩ := N.g
  obtain ⟨dl, tl, L⟩ := N.l
  exact ⟨dx, g, l, s _ _ N.ob (fun _ z => nomatch z), ⟨dg, tg, s _ _ G.ob (fun _ z => nomatch z), s _ _ G.ps (fun _ z => nomatch z), G.asc, G.fx, G.le⟩, ⟨dl, tl, s _ _ L.ob (fun _ z => nomatch z), s _ _ L.ps (fun _ z => nomatch z), L.asc, L.fx, L.le⟩⟩
theorem Pen.extN {H H' : Hp} {p a : Addr} {cs : List Int} {b g : Int} (N : Pen H p a cs b g) (s : ExtN H H') : Pen H' p a cs b g := ⟨s _ _ N.pn (fun _ z => nomatch z), s _ _ N.ce (fun _ z => nomatch z), N.b0, N.g0, N.ln⟩
/-- what _law_heard's def is, where it stands -/
theorem heardF {P : Program} {w : World} {K : PySem.W.Frag} {mg : Str → Option Value} {base : Heap} (T : KF P w K mg base) : ∃ oc od dV kV doc pm an cdv ct osl, K.lookup (ga K "_law_heard") = some ⟨oc, od, .func (PySem.W.fnOf "_law_heard" "_law_heard" (defArgs sHeard) (defBody sHeard) (defScope sHeard) dV kV doc pm an cdv ct), osl⟩ ∧
    PySem.W.codeIn K cdv "_law_heard" = true ∧ L2.Binds K (PySem.W.fnOf "_law_heard" "_law_heard" (defArgs sHeard) (defBody sHeard) (defScope sHeard) dV kV doc pm an cdv ct) ["_law_ask"] [] ∧ PySem.W.keepIn K (.ref (ga K "_law_heard")) = true ∧ mg "_law_heard" = some (.ref (ga K "_law_heard")) := by
  obtain ⟨fd, F, g⟩ := T.tops ("_law_heard", 44) (by decide)
  have b : L2.Binds K fd ["_law_ask"] [] := FunD.bindsN F fun _ _ _ _ _ _ us hl => match us, hl with | [_], _ => rfl
  obtain ⟨oc, od, dV, kV, doc, pm, an, cdv, ct, osl, rfl, lk, hcd, _, _⟩ := F.ex
  exact ⟨oc, od, dV, kV, doc, pm, an, cdv, ct, osl, lk, hcd, b, F.kp, g⟩
/-- _law_heard(lambda: body) in a def whose lambdas' table is known -/
theorem pe_heard {X : Cx} {c : Addr × Addr} {k : Nat} {params : Arguments} {body : Expr} {scope : Scope} {t : XK → TE} {p lpos pos : Pos} (T : KF X.prog X.w X.K X.mg X.base) (TB : TabB X.base X.mg c.1 c.2) (hcode : X.env.code = .ref c.1)
    (hmT : (c.2, X.env.qual ++ "<lambda>") ∈ TL X.K) (hu : ∀ p ∈ TL X.K, p.1 = c.2 → p.2 = X.env.qual ++ "<lambda>") (hg : Gl X "_law_heard") (hr : Room (k + 2) X.A) (L : LamS X.env.scope scope) (hdef : defaultsOf params X.env = ([], []))
    (hbind : ∀ (q : Str) (cl : List (Str × Addr)) (pm cv ctv : Value), bindArgs (PySem.W.kla_fn "<lambda>" q params body scope cl pm cv ctv) ⟨[], []⟩ = pure [])
    (hbody : ∀ (A : Around) (outer : List Env) (s : Shared) (H : Hp) (E : XK) (f c' : Addr), Room k (A.deeper (lamEnv X scope s.heap.objs.size f c')) → PE (lamCx X A outer s H E scope f c') body (t E)) :
    PE X (.Call (.Name "_law_heard" p) [.Lambda params body scope lpos] [] pos) (tLam (TL X.K) (TTh X.K) t) := by
  obtain ⟨oc, od, dV, kV, doc, pm, an, cdv, ct, osl, lk, hcd, b, kp, g⟩ := heardF T
  exact pe_lamcall hg g kp lk hcd b scHd rfl (.inl rfl) (heard_gives T) TB hcode hmT hu hr L hdef hbind hbody
abbrev sRr : Stmt := top 49
abbrev scRr_N : List Str := ["_law_text_here", "_law_heard_here", "_law_due_here", "_law_gained", "_law_lost"]
theorem scRr : FnScope scRr_N ["_law_text_here"] (defScope sRr) := ⟨rfl, rfl, rfl, by decide +kernel, rfl, by decide +kernel, by decide +kernel⟩
abbrev qRr : Str × Nat := ("_law_read_right", 49)
def HeardRead (K : PySem.W.Frag) (H : Hp) (r : Addr) (z : Str) : Prop := (∃ g l x, readF (Txt.split z " ") = .inl (g, l) ∧ H r = some (.lst [.ref x]) ∧ IsNote K H x g l) ∨ (∃ i : Nat, readF (Txt.split z " ") = .inr i ∧ H r = some (.tup [.int 0, .int (i : Nat)]))
def spRr (K : PySem.W.Frag) : Sp := fun vs H Q _ => ∃ z, vs = [.str z] ∧ TextOk z ∧ Tabs (TL K) H ∧ ∀ H', ExtN H H' → Tabs (TL K) H' → Q (.bl true) H'
section
variable {P : Program} {w : World} {mg : Str → Option Value} {base : Heap} {K : PySem.W.Frag} {H : Hp} {D : Ends} {Q : VK} {σ : L2.St}
theorem noteOf_read {i j : Nat} {x y : Addr} {ga lo : List Str} (hi : σ[i]? = some (some (.ref x))) (hj : σ[j]? = some (some (.ref y))) (hx : RowP H x ga) (hy : RowP H y lo) (G : GL ga lo)
    (k : ∀ d H', Same H H' → IsNote K H' d ga lo → Q (.ref d) H') : tNoteOf K i j σ H Q := by
  refine ⟨_, hi, .ref x, ga, rfl, .inl ⟨x, rfl, hx⟩, G.lg, G.fg, fun H1 q dq tq s1 O => ?_⟩
  rw [lined_asc G.ag] at O
  refine ⟨_, hj, .ref y, lo, rfl, .inl ⟨y, rfl, s1 _ _ hy⟩, G.ll, G.fl, fun H2 q2 dq2 tq2 s2 O2 => ?_⟩
  rw [lined_asc G.al] at O2
  exact note_new (Q := Q) ⟨dq, tq, O.same s2⟩ ⟨dq2, tq2, O2⟩ G.ap fun z H3 s3 n => k z H3 (s1.trans (s2.trans s3)) n
theorem heard_read {z : Str} (h0 : σ[0]? = some (some (.str z))) (hz : z.length ≤ 900) (hT : Tabs (TL K) H) (k : ∀ r H', ExtN H H' → Tabs (TL K) H' → HeardRead K H' r z → Q (.ref r) H') : tHd K (tRdE K) σ H Q := by
  refine ⟨hT, fun H1 e1 T1 => ?_⟩
  show tRdE K (ErrH K Q) σ H1 (fun v H2 => [v].length ≤ sizeLine ∧ ∀ l, H2 l = none → Q (.ref l) (upd H2 l (.lst [v])))
  refine ⟨rfl, _, h0, ?_⟩
  unfold tNil
  show spNr K [.str z] H1 _ _
  refine ⟨_, rfl, .inl ⟨z, rfl, hz, fun g l e x H2 s2 n => ⟨by show 1 ≤ sizeLine; decide, fun L nL => ?_⟩, fun i e H2 s2 d nd => .inl ⟨d, .int 0, .int (i : Nat), rfl, rfl, upd_same, fun r H3 s3 hr => ?_⟩⟩⟩
  · have s3 := s2.trans (same_new (o := .lst [V.ref x]) nL)
    exact k L _ (e1.trans (Same.extN s3)) (T1.ext s3) (.inl ⟨g, l, x, e, upd_same, IsNote.same n (same_new nL)⟩)
  · have s4 := s2.trans ((same_new (o := .xd [("word", .int (i : Nat)), ("line", .int 0)]) nd).trans s3)
    exact k r _ (e1.trans (Same.extN s4)) (T1.ext s4) (.inr ⟨i, e, hr⟩)
theorem eqv_pair (i : Nat) : PyData.eqv (.tuple [.int 0, .int (i : Int)]) (.tuple [.int 0, .int (i : Int)]) = true := by
  simp [PyData.eqv, PyData.eqvAll]
theorem rr_good (T : KF P w K mg base) {z : Str} {r L t ga la x : Addr} {g l : List Str} (G : GL g l) (et : noteText g l = z) (hx : H r = some (.lst [.ref x])) (nx : IsNote K H x g l) (hL : H L = some (.lst [.ref t])) (ht : H t = some (.tup [.ref ga, .ref la])) (rg : RowP H ga g) (rl : RowP H la l) (k : ∀ H', Same H H' → D.rt (.bl true) H') :
    tR2 K D [some (.str z), some (.ref r), some (.ref L), none, none] H := by
  refine ⟨_, rfl, .ref L, .ty "list", .type "list", _, true, rfl, .ty _, .base (.lst hL), kit_ty (by decide +kernel), true, rfl, if_posB rfl ?_⟩
  refine ⟨_, rfl, L, _, 0, .ref t, rfl, rfl, SqL.of hL, atI_nat (j := 0) rfl, t, _, rfl, SqT.of ht, rfl, _, _, rfl, _, _, rfl, rfl, ?_⟩
  refine ⟨_, rfl, .ref r, .ty "list", .type "list", _, true, rfl, .ty _, .base (.lst hx), kit_ty (by decide +kernel), true, rfl, if_posB rfl ?_⟩
  refine ⟨_, rfl, r, _, 0, .ref x, rfl, rfl, SqL.of hx, atI_nat (j := 0) rfl, ?_⟩
  refine noteOf_read (i := 3) (j := 4) (σ := [some (.str z), some (.ref r), some (.ref L), some (.ref ga), some (.ref la)]) rfl rfl rg rl G fun d H3 s3 nd => eqn_read T (IsNote.same nx s3) nd ⟨_, rfl, if_posB (by rw [decide_eq_true rfl, decide_eq_true rfl]; rfl) ?_⟩
  refine ⟨_, rfl, r, _, 0, .ref x, rfl, rfl, SqL.of (s3 _ _ hx), atI_nat (j := 0) rfl, ?_⟩
  have nx3 := IsNote.same nx s3
  have nx4 := nx3
  obtain ⟨dx, _, _, NX⟩ := nx4
  refine ⟨x, dx, _, rfl, NX.ob, x, _, _, rfl, nx3, fun H4 s4 => ⟨_, rfl, _, rfl, rfl, ?_⟩⟩
  rw [et, decide_eq_true rfl]
  exact k H4 (s3.trans s4)
theorem rr_bad {z : Str} {r t : Addr} {i : Nat} (hr : H r = some (.tup [.int 0, .int (i : Nat)])) (ht : H t = some (.tup [.int 0, .int (i : Nat)])) (k : D.rt (.bl true) H) :
    tSeq (tR2 K) (tR3 K) D [some (.str z), some (.ref r), some (.ref t), none, none] H := by
  refine ⟨_, rfl, .ref t, .ty "list", .type "tuple", _, false, rfl, .ty _, .base (.tup ht), kit_ty (by decide +kernel), false, rfl, if_negB rfl ?_⟩
  refine ⟨_, rfl, _, rfl, .tuple [.int 0, .int (i : Int)], .tuple [.int 0, .int (i : Int)], .tup (SqT.of hr) (.cons (.int _) (.cons (.int _) .nil)), .tup (SqT.of ht) (.cons (.int _) (.cons (.int _) .nil)), rfl, rfl, ?_⟩
  rw [eqv_pair]
  exact k
theorem rr_par {z : Str} (ok : TextOk z) (hT : Tabs (TL K) H)
    (good : ∀ g l r L t ga la H1 H2, readF (Txt.split z " ") = .inl (g, l) → ExtN H H1 → Tabs (TL K) H1 → HeardRead K H1 r z → Same H1 H2 → H2 L = some (.lst [.ref t]) → H2 t = some (.tup [.ref ga, .ref la]) → RowP H2 ga g → RowP H2 la l → D.nx [some (.str z), some (.ref r), some (.ref L), none, none] H2)
    (bad : ∀ (i : Nat) r t H1 H2, readF (Txt.split z " ") = .inr i → ExtN H H1 → Tabs (TL K) H1 → HeardRead K H1 r z → Same H1 H2 → H2 t = some (.tup [.int 0, .int (i : Nat)]) → D.nx [some (.str z), some (.ref r), some (.ref t), none, none] H2) :
    tR1 K D [some (.str z), none, none, none, none] H := by
  show tHd K (tRdE K) [some (.str z), none, none, none, none] H (fun x H1 => tCall (spDue K) [] E0 (tCons (tVar 0) tNil) [some (.str z), none, none, none, none] H1 fun y H2 => ∃ v w, [x, y] = [v, w] ∧ D.nx ((List.set [some (.str z), none, none, none, none] 1 (some v)).set 2 (some w)) H2)
  refine heard_read (z := z) rfl ok.le hT fun r H1 e1 T1 hr => ?_
  refine ⟨_, rfl, ?_⟩
  show spDue K [.str z] H1 (fun y H2 => ∃ v w, [V.ref r, y] = [v, w] ∧ D.nx ((List.set [some (.str z), none, none, none, none] 1 (some v)).set 2 (some w)) H2) E0
  exact ⟨z, rfl, ok, fun g l eq L t ga la H2 s2 hL ht rg rl => ⟨_, _, rfl, good g l r L t ga la H1 H2 eq e1 T1 hr s2 hL ht rg rl⟩, fun i eq t H2 s2 ht => ⟨_, _, rfl, bad i r t H1 H2 eq e1 T1 hr s2 ht⟩⟩
theorem read_rr (T : KF P w K mg base) {E : XK} {vs : List V} (h : spRr K vs H Q E) : tRr K { nx := fun _ H' => Q .non H', rt := Q } (L2.start scRr_N vs) H := by
  obtain ⟨z, rfl, ok, hT, k⟩ := h
  have e : L2.start scRr_N [.str z] = [some (.str z), none, none, none, none] := rfl
  rw [e]
  refine rr_par ok hT (fun g l r L t ga la H1 H2 eq e1 T1 hr s2 hL ht rg rl => ?_) fun i r t H1 H2 eq e1 T1 hr s2 ht => ?_
  · rcases hr with ⟨g', l', x, e', hx, nx⟩ | ⟨i, e', _⟩
    · obtain ⟨rfl, rfl⟩ := Prod.mk.inj (Sum.inl.inj (eq.symm.trans e'))
      obtain ⟨G, et⟩ := readF_ok eq
      exact rr_good (D := { nx := fun σ H' => tR3 K { nx := fun _ H' => Q .non H', rt := Q } σ H', rt := Q }) T G et (s2 _ _ hx) (IsNote.same nx s2) hL ht rg rl fun H4 s => k H4 (e1.trans (Same.extN (s2.trans s))) (T1.ext (s2.trans s))
    · exact nomatch eq.symm.trans e'
  · rcases hr with ⟨g', l', x, e', hx, nx⟩ | ⟨j, e', hj⟩
    · exact nomatch eq.symm.trans e'
    · obtain rfl := Sum.inr.inj (eq.symm.trans e')
      exact rr_bad (s2 _ _ hj) ht (k H2 (e1.trans (Same.extN s2)) (T1.ext s2))
theorem code_rr (T : KF P w K mg base) (TB : TabB base mg (cc K qRr).1 (cc K qRr).2) {f : Addr} {A : Around} {outer : List Env} {s : Shared} {H : Hp} {E : XK} {cdv : Value} (hcd : cdv = .ref (cc K qRr).1) (hr : Room 13 (A.deeper (envOfC "_law_read_right" (defScope sRr) s.heap.objs.size f cdv))) :
    ∃ t, PSs (cxOf CX0 P w K mg base scRr_N "_law_read_right" (defScope sRr) f cdv A outer s H E) (defBody sRr) t ∧ t = tRr K := by
  obtain ⟨fL, GL, bL, kL, gL⟩ := c_llot (w := w) T
  obtain ⟨fD, GD, bD, kD, gD⟩ := c_due (w := w) T
  obtain ⟨fn, Gn, bn, mn, gn⟩ := mk_note (w := w) T
  obtain ⟨fr, Gr, br, _⟩ := c_nr (w := w) T
  obtain ⟨_, ft, Ft⟩ := T.note ("__str__", 2) (by decide)
  have bt : L2.Binds K ft ["self"] [] := FunD.bindsN Ft fun _ _ _ _ _ _ us hl => match us, hl with | [_], _ => rfl
  have Gt := ok_noStr T Ft
  have hu := hr.units
  have nd := scRr.nd
  have hm : ((cc K qRr).2, qOf qRr) ∈ TL K := tl_mem (by decide)
  have hu2 := tl_one T (q := qRr) (by decide)
  refine ⟨_, PSs.nox
    (pss_cons (ps_par (i := 1) (j := 2) rfl nd rfl rfl (by decide) rfl rfl (pa_cons (pe_heard (k := 10) (t := tRdE K) T TB hcd hm hu2 (by rfl) (hr.mono (by decide)) (lamS_by (by show lamSB (defScope sRr) _ = true; decide +kernel)) rfl (fun _ _ _ _ _ => rfl)
          (fun A2 out2 s2 H2 E2 f2 c2 hr2 => Oo.pe_smeth (E := E2) (pe_glob (v := .ref (gNo K)) (by rfl) gn rfl) (creadN T) (smetN T) (Oo.FnOk.r0 Gr br) (hr2.mono (by decide)) (passes_call (takes_of rfl rfl rfl rfl) fun _ _ _ _ h => h) (pa_cons (pv 0) pa_nil)))
        (pa_cons (pe_call (E := E0) GD (hr.mono (by decide)) (by rfl) gD kD bD .nil pass0 (pa_cons (pv 0) pa_nil)) pa_nil)) (by rfl))
    (pss_cons (ps_if (pt_val (pe_callB call_isi (by rfl) (T.fr "isinstance" (by decide)) PyProof.Rows.boot_isinstance (pa_cons (pv 2) (pa_cons (pe_bltn (v := .ty "list") (by rfl) (T.fr "list" (by decide)) boot_T rfl) pa_nil))))
      (pss_cons (ps_asg (pe_ix ix_list (pv 2) pe_int (fun _ _ => rfl)) (pg_tup (by rfl) (pgs_cons (pg_name (i := 3) nd rfl (.inl rfl)) (pgs_cons (pg_name (i := 4) nd rfl (.inl rfl)) pgs_nil))))
        (pss_one (ps_ret (pe_and (pe_callB call_isi (by rfl) (T.fr "isinstance" (by decide)) PyProof.Rows.boot_isinstance (pa_cons (pv 1) (pa_cons (pe_bltn (v := .ty "list") (by rfl) (T.fr "list" (by decide)) boot_T rfl) pa_nil)))
          (pe_and (pe_cmpR (Oo.op_cmpO (E := E0) (op := .Eq) (fun _ _ => rfl) (nm T ("__eq__", 3) (by decide)) (r_noEq T) (hr.mono (by decide)) pass0) (pe_ix ix_list (pv 1) pe_int (fun _ _ => rfl))
              (pe_make (E := E0) mn Gn (hr.mono (by decide)) (by rfl) gn bn .nil passL (pa_cons (pe_call (E := E0) GL (hr.mono (by decide)) (by rfl) gL kL bL .nil pass0 (pa_cons (pv 3) pa_nil)) (pa_cons (pe_call (E := E0) GL (hr.mono (by decide)) (by rfl) gL kL bL .nil pass0 (pa_cons (pv 4) pa_nil)) pa_nil))) (nomark _))
            (pe_one (pe_cmpR op_eq (pe_callTy (Oo.call_strO (E := E0) (nm T ("__str__", 2) (by decide)) Gt (hr.mono (by decide)) bt pass0) (by rfl) (T.fr "str" (by decide)) boot_T (pa_cons (pe_ix ix_list (pv 1) pe_int (fun _ _ => rfl)) pa_nil)) (pv 0) (nomark _)))))))) pss_nil)
    (pss_one (ps_ret (pe_cmpR (op_eqD hu) (pv 1) (pv 2) (nomark _)))))), ?_⟩
  rfl
theorem ok_rr (T : KF P w K mg base) (TB : TabB base mg (cc K qRr).1 (cc K qRr).2) : Callee P w K mg base CX0 14 "_law_read_right" ["_law_text_here"] (spRr K) := by
  obtain ⟨fd, F, g⟩ := T.tops qRr (by decide)
  have b : L2.Binds K fd ["_law_text_here"] [] := FunD.bindsN F fun _ _ _ _ _ _ us hl => match us, hl with | [_], _ => rfl
  have kp := F.kp
  obtain ⟨oc, od, dV, kV, doc, pm, an, cdv, ct, osl, rfl, lk, hcd, _, _⟩ := F.ex
  obtain ⟨c, rfl⟩ := He.codeIn_ref hcd
  have ec : (cc K qRr).1 = c := He.codeOf_eq (p := ("_law_read_right", none)) lk rfl
  refine ⟨_, L2.fn_of lk hcd scRr (fun vs H Q E h => ?_) (fun A outer s H vs Q E hr h => ?_), b, kp, g⟩
  · obtain ⟨z, rfl, _⟩ := h
    rfl
  · obtain ⟨t, ht, rfl⟩ := code_rr (E := E) T TB (by rw [ec]) hr
    exact ⟨_, ht, read_rr T (E := E) h⟩
theorem c_pen (T : KF P w K mg base) : Callee P w K mg base CX0 1 "_law_pen" ["_law_script"] (spPen K) := by
  obtain ⟨fd, F, g⟩ := T.tops ("_law_pen", 41) (by decide)
  exact ⟨fd, ok_pen F (blt1 T), FunD.bindsN F fun _ _ _ _ _ _ us hl => match us, hl with | [_], _ => rfl, F.kp, g⟩
theorem c_pick (T : KF P w K mg base) : Callee P w K mg base CX0 2 "_law_pick" ["_law_pen_here", "_law_some"] spPick := by
  obtain ⟨fd, F, g⟩ := T.tops ("_law_pick", 43) (by decide)
  obtain ⟨fD, FD, gD⟩ := T.tops ("_law_draw", 42) (by decide)
  exact ⟨fd, ok_pick F (blt1 T) FD gD, FunD.bindsN F fun _ _ _ _ _ _ us hl => match us, hl with | [_, _], _ => rfl, F.kp, g⟩
end
end K7
set_option Elab.async false
set_option linter.all false
set_option maxRecDepth 100000
set_option maxHeartbeats 1000000
/-! _law_bent. -/
namespace K7
open PySem PySem.Spec PyProof.Rows L2 RV EV He EF EI Hd LamX Kw
/-! lists of strings, read -/
def LsR (t : TE) (σ : L2.St) (H : Hp) (xs : List Str) : Prop := ∀ H1, Same H H1 → ∀ F : VK, (∀ a H2, Same H1 H2 → RowP H2 a xs → F (.ref a) H2) → t σ H1 F
theorem cutT {ws : List Str} {n : Nat} (h : n ≤ ws.length) : cutV (ws.map V.str) none (some (n : Nat)) = (ws.take n).map V.str := by
  unfold cutV
  rw [HT.sIx_nat, HT.sIx_none, List.length_map, Nat.min_eq_left h, List.drop_zero, Nat.sub_zero, List.map_take]
theorem cutD {ws : List Str} {n : Nat} (h : n ≤ ws.length) : cutV (ws.map V.str) (some (n : Nat)) none = (ws.drop n).map V.str := by
  unfold cutV
  rw [HT.sIx_nat, HT.sIx_none, List.length_map, Nat.min_eq_left h, ← List.map_drop, List.take_of_length_le (by rw [List.length_map, List.length_drop]; omega)]
theorem cutM {ws : List Str} {n : Nat} (h : n + 1 ≤ ws.length) : cutV (ws.map V.str) (some (n : Nat)) (some ((n + 1 : Nat) : Int)) = ((ws.drop n).take 1).map V.str := by
  unfold cutV
  rw [HT.sIx_nat, HT.sIx_nat, List.length_map, Nat.min_eq_left h, Nat.min_eq_left (by omega), ← List.map_drop, ← List.map_take, Nat.add_sub_cancel_left]
abbrev rJn (K : PySem.W.Frag) : V → List V → Hp → VK → Prop := fun x xs H Q => ∃ a p, ∃ ys : List Str, x = .str a ∧ xs = [.ref p] ∧ (SqL K H p (ys.map V.str) ∨ SqT K H p (ys.map V.str)) ∧ (ys.map (·.length)).sum + ys.length * a.length ≤ 16777216 ∧ Q (.str (Txt.join a ys)) H
abbrev tSpJ (K : PySem.W.Frag) (te : TE) : TE := L2.tM1 (rJn K) (tC (V.str " ")) te
def wt (ws : List Str) : Nat := (ws.map (·.length)).sum + ws.length
theorem wt_app (a b : List Str) : wt (a ++ b) = wt a + wt b := by
  unfold wt
  rw [List.map_append, List.sum_append, List.length_append]
  omega
theorem wt_len (a : List Str) : a.length ≤ wt a := Nat.le_add_left _ _
theorem wt_take (ws : List Str) (n : Nat) : wt (ws.take n) + wt (ws.drop n) = wt ws := by rw [← wt_app, List.take_append_drop]
section
variable {K : PySem.W.Frag} {H : Hp} {Q : VK} {σ : L2.St} {xs ys : List Str} {ta tb : TE} {i j n : Nat} {a : Addr}
theorem LsR.cat (ha : LsR ta σ H xs) (hb : LsR tb σ H ys) (hz : xs.length + ys.length ≤ 100000) : LsR (tOp rCat ta tb) σ H (xs ++ ys) := fun H1 s1 F k => by
  refine ha H1 s1 _ fun a H2 s2 ra => hb H2 (s1.trans s2) _ fun b H3 s3 rb => ?_
  refine ⟨a, b, _, _, rfl, rfl, s3 _ _ ra, rb, by rw [List.length_map, List.length_map, sizeLine_eq]; omega, fun r nr => k r _ (s2.trans (s3.trans (same_new nr))) ?_⟩
  show upd _ _ _ _ = _
  rw [upd_same, List.map_append]
theorem LsR.take (hi : σ[i]? = some (some (.ref a))) (hj : σ[j]? = some (some (.int (n : Nat)))) (ha : RowP H a xs) (hn : n ≤ xs.length) : LsR (tSl (rSlL K) (tVar i) tNoPart (tPart (tVar j))) σ H (xs.take n) := fun H1 s1 F k => by
  refine ⟨_, hi, _, hj, (n : Nat), rfl, a, _, rfl, SqL.of (s1 _ _ ha), fun p np => k p _ (same_new np) ?_⟩
  show upd _ _ _ _ = _
  rw [upd_same, cutT hn]
theorem LsR.drop (hi : σ[i]? = some (some (.ref a))) (hj : σ[j]? = some (some (.int (n : Nat)))) (ha : RowP H a xs) (hn : n ≤ xs.length) : LsR (tSl (rSlL K) (tVar i) (tPart (tVar j)) tNoPart) σ H (xs.drop n) := fun H1 s1 F k => by
  refine ⟨_, hi, _, hj, (n : Nat), rfl, a, _, rfl, SqL.of (s1 _ _ ha), fun p np => k p _ (same_new np) ?_⟩
  show upd _ _ _ _ = _
  rw [upd_same, cutD hn]
theorem LsR.drop1 (hi : σ[i]? = some (some (.ref a))) (hj : σ[j]? = some (some (.int (n : Nat)))) (ha : RowP H a xs) (hn : n + 1 ≤ xs.length) : LsR (tSl (rSlL K) (tVar i) (tPart (tOp rPl (tVar j) (tC (V.int 1)))) tNoPart) σ H (xs.drop (n + 1)) := fun H1 s1 F k => by
  refine ⟨_, hi, _, hj, _, _, rfl, rfl, _, rfl, a, _, rfl, SqL.of (s1 _ _ ha), fun p np => k p _ (same_new np) ?_⟩
  have := cutD (ws := xs) (n := n + 1) hn
  show upd _ _ _ _ = _
  rw [upd_same]
  exact congrArg (fun z => some (HO.lst z)) this
theorem LsR.mid (hi : σ[i]? = some (some (.ref a))) (hj : σ[j]? = some (some (.int (n : Nat)))) (ha : RowP H a xs) (hn : n + 1 ≤ xs.length) : LsR (tSl (rSlL K) (tVar i) (tPart (tVar j)) (tPart (tOp rPl (tVar j) (tC (V.int 1))))) σ H ((xs.drop n).take 1) := fun H1 s1 F k => by
  refine ⟨_, hi, _, hj, _, rfl, _, hj, _, _, rfl, rfl, _, rfl, a, _, rfl, SqL.of (s1 _ _ ha), fun p np => k p _ (same_new np) ?_⟩
  have := cutM (ws := xs) (n := n) hn
  show upd _ _ _ _ = _
  rw [upd_same]
  exact congrArg (fun z => some (HO.lst z)) this
theorem LsR.one {x : Str} (hi : σ[i]? = some (some (.str x))) : LsR (tLst (tCons (tVar i) tNil)) σ H [x] := fun H1 s1 F k => ⟨_, hi, by show 1 ≤ sizeLine; decide, fun p np => k p _ (same_new np) upd_same⟩
theorem LsR.join (h : LsR ta σ H xs) (hz : wt xs ≤ 100000) (k : ∀ H', Same H H' → Q (.str (Txt.join " " xs)) H') : tSpJ K ta σ H Q := by
  refine ⟨⟨_, rfl⟩, ?_⟩
  refine h H (fun _ _ e => e) _ fun p H1 s1 rp => ⟨" ", p, xs, rfl, rfl, .inl (SqL.of rp), ?_, k H1 s1⟩
  have e1 : (" " : Str).length = 1 := rfl
  unfold wt at hz
  rw [e1]
  omega
end
/-! no Python -/
def SOk (z : Str) : Prop := ∀ c ∈ z.cps.toList, c < 0x110000
theorem join_wt : ∀ (ws : List Str), ws ≠ [] → (Str.join " " ws).length + 1 = wt ws
  | [], h => absurd rfl h
  | [y], _ => by
    show y.length + 1 = _
    unfold wt
    simp
  | y :: z :: r, _ => by
    have e : Str.join " " (y :: z :: r) = y ++ " " ++ Str.join " " (z :: r) := rfl
    have h := join_wt (z :: r) (by simp)
    have e1 : (" " : Str).length = 1 := rfl
    rw [e, strLen_append, strLen_append, e1]
    have : wt (y :: z :: r) = y.length + 1 + wt (z :: r) := by
      unfold wt
      simp only [List.map_cons, List.sum_cons, List.length_cons]
      omega
    omega
theorem join_sok : ∀ (ws : List Str), (∀ x ∈ ws, SOk x) → SOk (Str.join " " ws)
  | [], _ => fun c hc => by
    have : (Str.join " " []).cps.toList = [] := rfl
    rw [this] at hc
    cases hc
  | [y], h => h y (by simp)
  | y :: z :: r, h => fun c hc => by
    have e : (Str.join " " (y :: z :: r)).cps.toList = (y.cps.toList ++ (" " : Str).cps.toList) ++ (Str.join " " (z :: r)).cps.toList := by
      show ((y.cps ++ (" " : Str).cps) ++ (Str.join " " (z :: r)).cps).toList = _
      rw [Array.toList_append, Array.toList_append]
    rw [e] at hc
    rcases List.mem_append.mp hc with h1 | h1
    · rcases List.mem_append.mp h1 with h2 | h2
      · exact h y (by simp) c h2
      · have : c = 32 := by
          have e2 : (" " : Str).cps.toList = [32] := rfl
          rw [e2] at h2
          exact List.mem_singleton.mp h2
        omega
    · exact join_sok (z :: r) (fun x hx => h x (List.mem_cons_of_mem _ hx)) c h1
theorem joinT_wt (ws : List Str) : (Txt.join " " ws).length ≤ wt ws := by
  rw [TL.join_eq]
  cases ws with
  | nil => exact Nat.zero_le _
  | cons y r =>
    have := join_wt (y :: r) (by simp)
    omega
theorem joinT_sok {ws : List Str} (h : ∀ x ∈ ws, SOk x) : SOk (Txt.join " " ws) := by
  rw [TL.join_eq]
  exact join_sok ws h
theorem words_wt (z : Str) : wt (Txt.split z " ") = z.length + 1 := by
  have h := join_wt _ (split_some z)
  rw [← TL.join_eq, join_words] at h
  exact h.symm
def oddL : List Str := ["", "-", "+", "+a", "-a", "+b", "-zz", "a", "+A", "+abcdefghi", "--a", "+h", "-h", "+zzzzzzzz"]
theorem odd_facts : ∀ x ∈ oddL, SOk x ∧ x.length ≤ 10 := by
  intro x hx
  have := List.all_eq_true.mp (show oddL.all (fun x => x.cps.toList.all (fun c => decide (c < 0x110000)) && decide (x.length ≤ 10)) = true by decide +kernel) x hx
  obtain ⟨h1, h2⟩ := Bool.and_eq_true_iff.mp this
  exact ⟨fun c hc => of_decide_eq_true (List.all_eq_true.mp h1 c hc), of_decide_eq_true h2⟩
/-! _law_bent -/
abbrev sBe : Stmt := top 50
abbrev scBe_N : List Str := ["_law_pen_here", "_law_text_here", "_law_words", "_law_at", "_law_way", "_law_word"]
theorem scBe : FnScope scBe_N ["_law_pen_here", "_law_text_here"] (defScope sBe) := ⟨rfl, rfl, rfl, by decide +kernel, rfl, by decide +kernel, by decide +kernel⟩
def spBe : Sp := fun vs H Q _ => ∃ (p a : Addr) (cs : List Int) (b g : Int) (z : Str), vs = [.ref p, .str z] ∧ Pen H p a cs b g ∧ b ≤ 990 ∧ TextOk z ∧ z.length ≤ 400 ∧
  ∀ (z' : Str) (b' g' : Int) (H' : Hp), SOk z' → z'.length ≤ 2 * z.length + 14 → b' ≤ b + 3 → Pen H' p a cs b' g' → Same2 H H' p → Q (.str z') H'
abbrev tTk (K : PySem.W.Frag) : TE := tSl (rSlL K) (tVar 2) tNoPart (tPart (tVar 3))
abbrev tDr (K : PySem.W.Frag) : TE := tSl (rSlL K) (tVar 2) (tPart (tVar 3)) tNoPart
abbrev tDr1 (K : PySem.W.Frag) : TE := tSl (rSlL K) (tVar 2) (tPart (tOp rPl (tVar 3) (tC (V.int 1)))) tNoPart
abbrev tMd (K : PySem.W.Frag) : TE := tSl (rSlL K) (tVar 2) (tPart (tVar 3)) (tPart (tOp rPl (tVar 3) (tC (V.int 1))))
abbrev tWd : TE := tLst (tCons (tVar 5) tNil)
abbrev rSpl : V → List V → Hp → VK → Prop := fun x xs H Q => ∃ a b, x = .str a ∧ xs = [.str b] ∧ (b.length == 0) = false ∧ a.length + 2 ≤ sizeLine ∧ rNewStrs (Txt.split a b) H Q
def tB1 : TS := tAsg (L2.tM1 rSpl (tVar 1) (tC (V.str " "))) (gName 2)
def tB2 (K : PySem.W.Frag) : TS := tPar 3 4 (tCons (tCall spDraw [] E0 (tCons (tVar 0) (tCons (tCB (rLenS K) (tCons (tVar 2) tNil)) tNil))) (tCons (tCall spDraw [] E0 (tCons (tVar 0) (tCons (tC (V.int 4)) tNil))) tNil))
def tB3 : TS := tAsg (tCall spPick [] E0 (tCons (tVar 0) (tCons (tLst (tCons (tC (V.str "")) (tCons (tC (V.str "-")) (tCons (tC (V.str "+")) (tCons (tC (V.str "+a")) (tCons (tC (V.str "-a")) (tCons (tC (V.str "+b")) (tCons (tC (V.str "-zz")) (tCons (tC (V.str "a")) (tCons (tC (V.str "+A")) (tCons (tC (V.str "+abcdefghi")) (tCons (tC (V.str "--a")) (tCons (tC (V.str "+h")) (tCons (tC (V.str "-h")) (tCons (tC (V.str "+zzzzzzzz")) tNil))))))))))))))) tNil))) (gName 5)
abbrev tWay (n : Int) : TT := tTest (tOp rEq (tVar 4) (tC (V.int n)))
def tB4 (K : PySem.W.Frag) : TS := tIfS (tWay 0) (tRet (tSpJ K (tOp rCat (tTk K) (tDr1 K)))) tNext
def tB5 (K : PySem.W.Frag) : TS := tIfS (tWay 1) (tRet (tSpJ K (tOp rCat (tOp rCat (tTk K) tWd) (tDr1 K)))) tNext
def tB6 (K : PySem.W.Frag) : TS := tRet (tIf (tWay 2) (tSpJ K (tOp rCat (tOp rCat (tTk K) tWd) (tDr K))) (tSpJ K (tOp rCat (tOp rCat (tTk K) (tMd K)) (tDr K))))
def tBe (K : PySem.W.Frag) : TS := tSeq tB1 (tSeq (tB2 K) (tSeq tB3 (tSeq (tB4 K) (tSeq (tB5 K) (tB6 K)))))
section
variable {P : Program} {w : World} {mg : Str → Option Value} {base : Heap} {K : PySem.W.Frag} {H : Hp} {D : Ends} {Q : VK}
theorem way_is {σ : L2.St} {y n : Int} (h : σ[4]? = some (some (.int y))) : TestR (tWay n) σ H (decide (y = n)) := fun H1 _ F k => by
  refine ⟨_, h, rfl, _, rfl, ?_⟩
  rw [show decide (V.int y = V.int n) = decide (y = n) from decide_eq_decide.mpr ⟨fun h => V.int.inj h, fun h => congrArg V.int h⟩]
  exact k H1 fun _ _ e => e
theorem be_end {v0 v1 : Option V} {W : Addr} {ws : List Str} {n : Nat} {y : Int} {x : Str} (hW : RowP H W ws) (hn : n < ws.length) (hz : wt ws ≤ 1000) (hx : x.length ≤ 10)
    (k : ∀ ws' H', (∀ q ∈ ws', q ∈ ws ∨ q = x) → wt ws' ≤ 2 * wt ws + 11 → Same H H' → D.rt (.str (Txt.join " " ws')) H') :
    tSeq (tB4 K) (tSeq (tB5 K) (tB6 K)) D [v0, v1, some (.ref W), some (.int (n : Nat)), some (.int y), some (.str x)] H := by
  have hw := wt_take ws n
  have hw1 := wt_take ws (n + 1)
  have hl := wt_len ws
  have h1 : (ws.take n).length ≤ ws.length := List.length_take_le' _ _
  have h2 : (ws.drop n).length ≤ ws.length := by rw [List.length_drop]; omega
  have h3 : (ws.drop (n + 1)).length ≤ ws.length := by rw [List.length_drop]; omega
  have h4 : ((ws.drop n).take 1).length ≤ 1 := List.length_take_le _ _
  have wx : wt [x] ≤ 11 := by
    unfold wt
    simp
    omega
  have wm := wt_take (ws.drop n) 1
  have mT : ∀ q ∈ ws.take n, q ∈ ws := fun q h => List.mem_of_mem_take h
  have mD : ∀ m, ∀ q ∈ ws.drop m, q ∈ ws := fun m q h => List.mem_of_mem_drop h
  have T1 : ∀ H1, Same H H1 → LsR (tTk K) [v0, v1, some (.ref W), some (.int (n : Nat)), some (.int y), some (.str x)] H1 (ws.take n) := fun H1 s1 => LsR.take rfl rfl (s1 _ _ hW) (by omega)
  have D0 : ∀ H1, Same H H1 → LsR (tDr K) [v0, v1, some (.ref W), some (.int (n : Nat)), some (.int y), some (.str x)] H1 (ws.drop n) := fun H1 s1 => LsR.drop rfl rfl (s1 _ _ hW) (by omega)
  have D1 : ∀ H1, Same H H1 → LsR (tDr1 K) [v0, v1, some (.ref W), some (.int (n : Nat)), some (.int y), some (.str x)] H1 (ws.drop (n + 1)) := fun H1 s1 => LsR.drop1 rfl rfl (s1 _ _ hW) (by omega)
  have M1 : ∀ H1, Same H H1 → LsR (tMd K) [v0, v1, some (.ref W), some (.int (n : Nat)), some (.int y), some (.str x)] H1 ((ws.drop n).take 1) := fun H1 s1 => LsR.mid rfl rfl (s1 _ _ hW) (by omega)
  have O1 : ∀ H1, LsR tWd [v0, v1, some (.ref W), some (.int (n : Nat)), some (.int y), some (.str x)] H1 [x] := fun H1 => LsR.one rfl
  have h5 : ([x] : List Str).length = 1 := rfl
  refine TestR.ifS (way_is rfl) (fun _ H1 s1 => ?_) fun _ H1 s1 => ?_
  · refine LsR.join (LsR.cat (T1 _ s1) (D1 _ s1) (by omega)) (by rw [wt_app]; omega) fun H2 s2 => k _ H2 (fun q hq => ?_) (by rw [wt_app]; omega) (s1.trans s2)
    rcases List.mem_append.mp hq with h | h
    · exact .inl (mT q h)
    · exact .inl (mD _ q h)
  · refine TestR.ifS (way_is rfl) (fun _ H2 s2 => ?_) fun _ H2 s2 => ?_
    · have s := s1.trans s2
      refine LsR.join (LsR.cat (LsR.cat (T1 _ s) (O1 _) (by omega)) (D1 _ s) (by rw [List.length_append]; omega)) (by rw [wt_app, wt_app]; omega) fun H3 s3 => k _ H3 (fun q hq => ?_) (by rw [wt_app, wt_app]; omega) (s.trans s3)
      rcases List.mem_append.mp hq with h | h
      · rcases List.mem_append.mp h with h | h
        · exact .inl (mT q h)
        · exact .inr (List.mem_singleton.mp h)
      · exact .inl (mD _ q h)
    · have s := s1.trans s2
      refine way_is rfl H2 (fun _ _ e => e) _ fun H3 s3 => ?_
      have s' := s.trans s3
      by_cases e : y = 2
      · refine if_posB (decide_eq_true e) ?_
        refine LsR.join (LsR.cat (LsR.cat (T1 _ s') (O1 _) (by omega)) (D0 _ s') (by rw [List.length_append]; omega)) (by rw [wt_app, wt_app]; omega) fun H4 s4 => k _ H4 (fun q hq => ?_) (by rw [wt_app, wt_app]; omega) (s'.trans s4)
        rcases List.mem_append.mp hq with h | h
        · rcases List.mem_append.mp h with h | h
          · exact .inl (mT q h)
          · exact .inr (List.mem_singleton.mp h)
        · exact .inl (mD _ q h)
      · refine if_negB (decide_eq_false e) ?_
        refine LsR.join (LsR.cat (LsR.cat (T1 _ s') (M1 _ s') (by omega)) (D0 _ s') (by rw [List.length_append]; omega)) (by rw [wt_app, wt_app]; omega) fun H4 s4 => k _ H4 (fun q hq => ?_) (by rw [wt_app, wt_app]; omega) (s'.trans s4)
        rcases List.mem_append.mp hq with h | h
        · rcases List.mem_append.mp h with h | h
          · exact .inl (mT q h)
          · exact .inl (mD _ q (List.mem_of_mem_take h))
        · exact .inl (mD _ q h)
theorem be_draw {p a W : Addr} {cs : List Int} {b g : Int} {ws : List Str} {v1 a3 a4 a5 : Option V} (N : Pen H p a cs b g) (hb : b ≤ 990) (hW : RowP H W ws) (h0 : 0 < ws.length) (hz : ws.length < 1000)
    (k : ∀ (n : Nat) (y b' g' : Int) H', n < ws.length → b' ≤ b + 2 → Pen H' p a cs b' g' → Same2 H H' p → D.nx [some (.ref p), v1, some (.ref W), some (.int (n : Nat)), some (.int y), a5] H') :
    tB2 K D [some (.ref p), v1, some (.ref W), a3, a4, a5] H := by
  refine ⟨_, rfl, _, rfl, W, _, rfl, .inl (SqL.of hW), ?_⟩
  rw [List.length_map]
  refine ⟨p, a, cs, b, g, _, rfl, N, by omega, by omega, by omega, fun r b1 g1 H1 r0 r1 hb1 N1 s1 => ?_⟩
  obtain ⟨n, rfl⟩ := Int.eq_ofNat_of_zero_le r0
  refine ⟨_, rfl, p, a, cs, b1, g1, 4, rfl, N1, by omega, by decide, by decide, fun y b2 g2 H2 _ _ hb2 N2 s2 => ?_⟩
  exact ⟨_, _, rfl, k n y b2 g2 H2 (by omega) (by omega) N2 (same2_trans s1 s2)⟩
theorem be_pick {p a : Addr} {cs : List Int} {b g : Int} {v1 a2 a3 a4 a5 : Option V} (N : Pen H p a cs b g) (hb : b ≤ 995)
    (k : ∀ (x : Str) (b' g' : Int) H', x ∈ oddL → b' ≤ b + 1 → Pen H' p a cs b' g' → Same2 H H' p → D.nx [some (.ref p), v1, a2, a3, a4, some (.str x)] H') :
    tB3 D [some (.ref p), v1, a2, a3, a4, a5] H := by
  refine ⟨_, rfl, by show 14 ≤ sizeLine; decide, fun L nL => ?_⟩
  have s4 := same_new (o := .lst (oddL.map V.str)) nL
  have N4 := Pen.same N s4
  have Lp : L ≠ p := fun e => by
    rw [e, N.pn] at nL
    cases nL
  refine ⟨p, a, L, cs, b, g, oddL.map V.str, rfl, N4, by omega, Lp, upd_same, by unfold oddL; simp, by show 14 < 1000; decide, fun v b' g' H' hv hb' N' s' => ?_⟩
  obtain ⟨x, hx, rfl⟩ := List.mem_map.mp hv
  exact k x b' g' H' hx hb' N' fun c o hc e => s' c o hc (s4 c o e)
theorem read_be {E : XK} {vs : List V} (h : spBe vs H Q E) : tBe K { nx := fun _ H' => Q .non H', rt := Q } (L2.start scBe_N vs) H := by
  obtain ⟨p, a, cs, b, g, z, rfl, N, hb, ok, hz, k⟩ := h
  have e : L2.start scBe_N [.ref p, .str z] = [some (.ref p), some (.str z), none, none, none, none] := rfl
  rw [e]
  have ww := words_wt z
  have hl := wt_len (Txt.split z " ")
  have h0 := List.length_pos_iff.mpr (split_some z)
  refine ⟨_, rfl, ⟨_, rfl⟩, z, " ", rfl, rfl, by decide +kernel, by rw [sizeLine_eq]; omega, fun W nW => ?_⟩
  have s1 := same_new (o := .lst ((Txt.split z " ").map V.str)) nW
  have hW : RowP (upd H W (.lst ((Txt.split z " ").map V.str))) W (Txt.split z " ") := upd_same
  refine be_draw (Pen.same N s1) hb hW h0 (by omega) fun n y b1 g1 H1 hn hb1 N1 s2 => ?_
  have hW1 : RowP H1 W (Txt.split z " ") := s2 _ _ (row_ne (Pen.same N s1) hW) hW
  refine be_pick N1 (by omega) fun x b2 g2 H2 hx hb2 N2 s3 => ?_
  have hW2 : RowP H2 W (Txt.split z " ") := s3 _ _ (row_ne N1 hW1) hW1
  obtain ⟨sx, lx⟩ := odd_facts x hx
  refine be_end hW2 hn (by omega) lx fun ws' H3 hm hw s4 => ?_
  have hj := joinT_wt ws'
  refine k _ b2 g2 H3 (joinT_sok fun q hq => ?_) (by omega) (by omega) (Pen.same N2 s4) (same2_of (same2_trans (same2_trans (fun c o _ e => s1 c o e) s2) s3) s4)
  rcases hm q hq with h | rfl
  · exact (word_ok ok h).ok
  · exact sx
theorem code_be (T : KF P w K mg base) {f : Addr} {A : Around} {outer : List Env} {s : Shared} {H : Hp} {E : XK} {cdv : Value} (hr : Room 2 (A.deeper (envOfC "_law_bent" (defScope sBe) s.heap.objs.size f cdv))) :
    ∃ t, PSs (cxOf CX0 P w K mg base scBe_N "_law_bent" (defScope sBe) f cdv A outer s H E) (defBody sBe) t ∧ t = tBe K := by
  obtain ⟨fD, GD, bD, kD, gD⟩ := c_draw (w := w) T
  obtain ⟨fI, GI, bI, kI, gI⟩ := c_pick (w := w) T
  have nd := scBe.nd
  refine ⟨_, PSs.nox
    (pss_cons (ps_set (i := 2) nd rfl (.inl rfl) (pe_split (pv 1) pe_str))
    (pss_cons (ps_par (i := 3) (j := 4) rfl nd rfl rfl (by decide) rfl rfl (pa_cons (pe_call (E := E0) GD (hr.mono (by decide)) (by rfl) gD kD bD .nil pass0 (pa_cons (pv 0) (pa_cons (pe_callB call_len_seq (by rfl) (T.fr "len" (by decide)) PySem.boot_len (pa_cons (pv 2) pa_nil)) pa_nil)))
        (pa_cons (pe_call (E := E0) GD (hr.mono (by decide)) (by rfl) gD kD bD .nil pass0 (pa_cons (pv 0) (pa_cons pe_int pa_nil))) pa_nil)) (by rfl))
    (pss_cons (ps_set (i := 5) nd rfl (.inl rfl) (pe_call (E := E0) GI (hr.mono (by decide)) (by rfl) gI kI bI .nil pass0 (pa_cons (pv 0) (pa_cons (pe_lst (pa_cons pe_str (pa_cons pe_str (pa_cons pe_str (pa_cons pe_str (pa_cons pe_str (pa_cons pe_str (pa_cons pe_str (pa_cons pe_str (pa_cons pe_str (pa_cons pe_str (pa_cons pe_str (pa_cons pe_str (pa_cons pe_str (pa_cons pe_str pa_nil))))))))))))))) pa_nil))))
    (pss_cons (ps_if (pt_cmpR op_eq (pv 4) pe_int (nomark _)) (pss_one (ps_ret (pe_join pe_str (pe_op op_cat (pe_slice sl_list (pv 2) po_none (po_some (pv 3))) (pe_slice sl_list (pv 2) (po_some (pe_op op_add (pv 3) pe_int)) po_none))))) pss_nil)
    (pss_cons (ps_if (pt_cmpR op_eq (pv 4) pe_int (nomark _)) (pss_one (ps_ret (pe_join pe_str (pe_op op_cat (pe_op op_cat (pe_slice sl_list (pv 2) po_none (po_some (pv 3))) (pe_lst (pa_cons (pv 5) pa_nil))) (pe_slice sl_list (pv 2) (po_some (pe_op op_add (pv 3) pe_int)) po_none))))) pss_nil)
    (pss_one (ps_ret (pe_ifExp (pt_cmpR op_eq (pv 4) pe_int (nomark _)) (pe_join pe_str (pe_op op_cat (pe_op op_cat (pe_slice sl_list (pv 2) po_none (po_some (pv 3))) (pe_lst (pa_cons (pv 5) pa_nil))) (pe_slice sl_list (pv 2) (po_some (pv 3)) po_none)))
      (pe_join pe_str (pe_op op_cat (pe_op op_cat (pe_slice sl_list (pv 2) po_none (po_some (pv 3))) (pe_slice sl_list (pv 2) (po_some (pv 3)) (po_some (pe_op op_add (pv 3) pe_int)))) (pe_slice sl_list (pv 2) (po_some (pv 3)) po_none))))))))))), ?_⟩
  rfl
theorem c_be (T : KF P w K mg base) : Callee P w K mg base CX0 3 "_law_bent" ["_law_pen_here", "_law_text_here"] spBe := by
  obtain ⟨fd, F, g⟩ := T.tops ("_law_bent", 50) (by decide)
  refine ⟨fd, F.ok scBe (fun vs H Q E h => ?_) (fun cdv A outer s H vs Q E hr h => ?_), FunD.bindsN F fun _ _ _ _ _ _ us hl => match us, hl with | [_, _], _ => rfl, F.kp, g⟩
  · obtain ⟨p, a, cs, b, g, z, rfl, _⟩ := h
    rfl
  · obtain ⟨t, ht, rfl⟩ := code_be (E := E) T hr
    exact ⟨_, ht, read_be (E := E) h⟩
end
end K7
set_option Elab.async false
set_option linter.all false
set_option maxRecDepth 100000
set_option maxHeartbeats 2000000
/-! a dict != a text. -/
namespace PySem.SeqAt
open AutoSeq1 (wpAny_loadPart')
open MeetsSeq MeetsSeq2 MeetsSeq3
theorem ownStrNeDict (b : Str) (u : Tok) (l : Addr) (c : Value) (es : Array DictEntry) (n : Nat) (dd : Option Addr) (sl : Array (Option Value)) :
    Meets (Builtin.«str.__ne__» ⟨[.str b u, .ref l], []⟩) (fun _ R s => s.heap.get? l = some { cls := c, dict := dd, data := .dict es n, slots := sl } ∧ R (.ok (.ret .notImplemented)) s) :=
  .of_wp fun prog w A R s h => by obtain ⟨hp, g, d, tk, os⟩ := s; obtain ⟨hl, h⟩ := h; wp_walk using wpAny_loadPart' hl, wpAny_load hl; exact ⟨_, rfl, h⟩
variable {prog : Program} {w : World} {K : Type} [DecidableEq K] {knd : KeyKind prog w K} {A : Around} {E : Value → Shared → Prop} {s : Shared}
theorem ownNeDictStr {a : Addr} {z : Str} {u : Tok} {ks : List (K × Value)} {Q : Value → Shared → Prop} (da : s.heap.DictOf knd a ks) (hu : A.units < cLine) (h : Q (.bool true) s) : wpAny (model prog w) A (compareOp .NotEq (.ref a) (.str z u)) Q E s := by
  have da' := da
  obtain ⟨ob, es, ep, e, _, hd, _⟩ := da'
  show wpAny _ _ (richCompare .NotEq (.ref a) (.str z u)) _ _ _
  obtain ⟨cls, dd, data, sl⟩ := ob
  simp only at hd
  subst hd
  refine rc_ne_decline_or (k := false) da.typeIs (typeIs_str s z u) (by decide) F.sub_str_dict F.slot_dict_ne F.slot_str_ne_refl (fun Q' hq => wpAny_call_entry F.slot_dict_ne da.typeIs F.entry_dict_ne ?_ (F.args_dict_ne_2 _ _))
    (fun Q' hq => call_meets F.slot_str_ne_refl (typeIs_str s z u) F.entry_str_ne (F.args_str_ne_2 _ _) (ownStrNeDict z u a cls es ep dd sl) ⟨e, hq⟩) (fun _ hq => wpAny_of_eq (rfl : isSame (.ref a) (.str z u) = pure false) hq) (.inr hu) h
  show wpAny _ _ (Builtin.Dict.dictSlotArgs "__ne__" ⟨[.ref a, .str z u], []⟩ >>= _) _ _ s
  refine wpAny_bind ?_
  unfold Builtin.Dict.dictSlotArgs
  refine wpAny_bind (wpAny_notOrdered_dict da.typeIs ?_)
  show wpAny _ _ (pure (Value.ref a, Value.str z u)) _ _ s
  refine wpAny_pure ?_
  refine wpAny_bind (wpAny_isInstance (T := "str") (typeIs_str s z u) F.sub_str_dict ?_)
  wp_walk
  exact ⟨_, rfl, hq⟩
end PySem.SeqAt
namespace K7
open PySem PySem.Spec PyProof.Rows L2
/-- != of data, the first perhaps a dict, a list, a tuple, the second then a text -/
def rNeDD (K : PySem.W.Frag) : R2 := fun x y H Q => rNeD K x y H Q ∨ ∃ a o z, x = .ref a ∧ y = .str z ∧ H a = some o ∧ ((∃ ks, o = .dK ks) ∨ (∃ xs, o = .lst xs) ∨ (∃ xs, o = .tup xs)) ∧ Q (.bl true) H
theorem op_neDD {X : Cx} (hu : X.A.units + 64 < cLine) : OpR X (compareOp .NotEq) (rNeDD X.K) := by
  intro pins s σ H x y v u Q I rx ry h
  rcases h with h | ⟨a, o, z, rfl, rfl, ea, ⟨ks, rfl⟩ | ⟨xs, rfl⟩ | ⟨xs, rfl⟩, q⟩
  · exact op_neD hu pins s σ H x y v u Q I rx ry h
  · obtain rfl : v = Value.ref a := rx
    obtain ⟨t, rfl⟩ := (show ∃ t, u = Value.str z t from ry)
    obtain ⟨_, ya, va, ra, da⟩ := (show ObjOk X.prog X.w H s.heap a (.dK ks) from I.hok a _ ea)
    exact PySem.SeqAt.ownNeDictStr (knd := mixKind X.prog X.w) da (by omega) ⟨.bl true, H, I, rfl, q⟩
  · obtain rfl : v = Value.ref a := rx
    obtain ⟨t, rfl⟩ := (show ∃ t, u = Value.str z t from ry)
    obtain ⟨its, rv, ⟨o, n, ho, hc, _, hd⟩, _⟩ := I.list (SqL.of ea)
    exact PySem.SeqAt.RcNeAt.list_str z t ⟨o, ho, hc, n, hd⟩ (by omega) _ _ _ _ ⟨.bl true, H, I, rfl, q⟩
  · obtain rfl : v = Value.ref a := rx
    obtain ⟨t, rfl⟩ := (show ∃ t, u = Value.str z t from ry)
    obtain ⟨its, rv, ⟨o, ho, hc, n, hd⟩, _⟩ := I.tuple (SqT.of ea)
    exact PySem.SeqAt.RcNeAt.tuple_str z t ⟨o, ho, hc, n, hd⟩ (by omega) _ _ _ _ ⟨.bl true, H, I, rfl, q⟩
end K7
set_option Elab.async false
set_option linter.all false
set_option maxRecDepth 100000
set_option maxHeartbeats 1000000
/-! _law_refused_right: its readings. -/
namespace K7
open PySem PySem.Spec PyProof.Rows L2 RV EV He EF EI Hd LamX Kw
abbrev tNP (K : PySem.W.Frag) (z : Str) : TE := Oo.tNewP (gO K) (spStar (spLi K)) E0 (tCons (tC (V.str z)) tNil)
abbrev tNP2 (K : PySem.W.Frag) (y z : Str) : TE := Oo.tNewP (gO K) (spStar (spLi K)) E0 (tCons (tC (V.str y)) (tCons (tC (V.str z)) tNil))
abbrev tNu (K : PySem.W.Frag) (a b : Int) : TE := tMake (gNu K) (spNuI K) [] E0 (tCons (tC (V.int a)) (tCons (tC (V.int b)) tNil))
abbrev tRv (K : PySem.W.Frag) (a b : TE) : TE := tMake (gRe K) (spReIv K) [] E0 (tCons a (tCons b tNil))
abbrev gV3 : List V → List V → List V := fun vs zs => vs ++ Kw.sel [1, 0] zs
abbrev gV7 : List V → List V → List V := fun vs zs => vs ++ zs
abbrev tT1 (z : Str) : TE := tTup (tCons (tC (V.str z)) tNil)
def tF1 (K : PySem.W.Frag) : XK → TE := fun E' => tMake (gNo K) (spNoIx K) [] E' (tCons (tVar 1) (tCons (tVar 1) tNil))
def tF2 (K : PySem.W.Frag) : XK → TE := fun E' => tMake (gNo K) (spNoIx K) [] E' (tCons (tNP K "a") (tCons (tVar 1) tNil))
def tF3 (K : PySem.W.Frag) : XK → TE := fun E' => L2.tMakeN (gNo K) 0 2 (spNoIx K) gV3 E' tNil (tCons (tNP2 K "a" "b") (tCons (tNP K "b") tNil))
def tF4 (K : PySem.W.Frag) : XK → TE := fun E' => tCall (spNofX K) [] E' (tCons (tVar 2) (tCons (tVar 2) tNil))
def tF5 (K : PySem.W.Frag) : XK → TE := fun E' => tCall (spNofX K) [] E' (tCons (tVar 3) (tCons (tVar 2) tNil))
def tF6 (K : PySem.W.Frag) : XK → TE := fun E' => tCall (spNofX K) [] E' (tCons (tRv K (tNu K 1 0) (tT1 "a")) (tCons (tVar 3) tNil))
def tF7 (K : PySem.W.Frag) : XK → TE := fun E' => L2.tCallN 1 1 (spNofX K) gV7 E' (tCons (tVar 3) tNil) (tCons (tRv K (tTup (tCons (tC (V.int 1)) (tCons (tC (V.int 0)) tNil))) (tNP K "a")) tNil)
def tF8 (K : PySem.W.Frag) : XK → TE := fun E' => Oo.tSMeth (gNo K) (spNr K) E' (tC (V.ref (gNo K))) (tCons (tIf (tTest (tOp (rNeDD K) (tVar 1) (tC (V.str "a")))) (tVar 1) (tC .non)) tNil)
/-! the repr of a text holds no sign that is none -/
theorem toNat_ok (c : Char) : c.toNat < 0x110000 := by
  have h := c.valid
  show c.val.toNat < 0x110000
  rcases h with h | h
  · have : c.val.toNat < 0xd800 := h
    omega
  · exact h.2
theorem reprChar_ok {q c : Nat} (hc : c < 0x110000) : ∀ x ∈ Builtin.Str.reprChar q c, x < 0x110000 := by
  have hx : ∀ (n : Nat) (x : Nat), x ∈ (let d := (Nat.toDigits 16 c).map Char.toNat; List.replicate (n - d.length) 48 ++ d) → x < 0x110000 := by
    intro n x h
    rcases List.mem_append.mp h with h | h
    · rw [(List.mem_replicate.mp h).2]
      decide
    · obtain ⟨d, _, rfl⟩ := List.mem_map.mp h
      exact toNat_ok d
  intro x h
  unfold Builtin.Str.reprChar at h
  split at h
  · simp only [List.mem_cons, List.not_mem_nil, or_false] at h
    omega
  · split at h
    · simp only [List.mem_cons, List.not_mem_nil, or_false] at h
      omega
    · split at h
      · simp only [List.mem_cons, List.not_mem_nil, or_false] at h
        omega
      · split at h
        · simp only [List.mem_cons, List.not_mem_nil, or_false] at h
          omega
        · split at h
          · simp only [List.mem_cons, List.not_mem_nil, or_false] at h
            omega
          · split at h
            · rcases List.mem_append.mp h with h | h
              · simp only [List.mem_cons, List.not_mem_nil, or_false] at h
                omega
              · exact hx 2 x h
            · split at h
              · rcases List.mem_append.mp h with h | h
                · simp only [List.mem_cons, List.not_mem_nil, or_false] at h
                  omega
                · exact hx 4 x h
              · rcases List.mem_append.mp h with h | h
                · simp only [List.mem_cons, List.not_mem_nil, or_false] at h
                  omega
                · exact hx 8 x h
theorem foldl_ok {q : Nat} : ∀ (l : List Nat) (acc : Array Nat), (∀ c ∈ l, c < 0x110000) → (∀ x ∈ acc.toList, x < 0x110000) → ∀ x ∈ (l.foldl (fun out c => out ++ (Builtin.Str.reprChar q c).toArray) acc).toList, x < 0x110000
  | [], acc, _, h, x, hx => h x hx
  | c :: l, acc, hl, h, x, hx => foldl_ok l _ (fun c hc => hl c (List.mem_cons_of_mem _ hc)) (fun y hy => by
      rw [Array.toList_append] at hy
      rcases List.mem_append.mp hy with z | z
      · exact h y z
      · exact reprChar_ok (hl c (List.mem_cons_self ..)) y z) x hx
theorem repr_ok {z : Str} (h : ∀ c ∈ z.cps.toList, c < 0x110000) : PyData.strOk (reprText z) = true := by
  have q : reprQuote z < 0x110000 := by
    unfold reprQuote
    split <;> decide
  unfold PyData.strOk
  rw [← Array.all_toList, List.all_eq_true]
  intro c hc
  refine decide_eq_true ?_
  unfold reprText at hc
  rw [Array.toList_push] at hc
  rcases List.mem_append.mp hc with z1 | z1
  · rw [← Array.foldl_toList] at z1
    exact foldl_ok _ _ h (fun y hy => by
      have : y = reprQuote z := by simpa using hy
      rw [this]
      exact q) c z1
  · rw [List.mem_singleton.mp z1]
    exact q
def partsL : List Str := ["gained", "lost", "both", "release", "other", "release", "other"]
theorem parts_ok : ∀ x ∈ partsL, SOk x ∧ x.length ≤ 10 := by
  intro x hx
  have := List.all_eq_true.mp (show partsL.all (fun x => x.cps.toList.all (fun c => decide (c < 0x110000)) && decide (x.length ≤ 10)) = true by decide +kernel) x hx
  obtain ⟨h1, h2⟩ := Bool.and_eq_true_iff.mp this
  exact ⟨fun c hc => of_decide_eq_true (List.all_eq_true.mp h1 c hc), of_decide_eq_true h2⟩
theorem repr_len {z : Str} (h : SOk z) (hz : z.length ≤ 10) : (reprText z).length ≤ sizeLine := by
  have := StrLaws.reprText_len z fun c hc => Nat.lt_trans (h c hc) (by decide)
  rw [sizeLine_eq]
  omega
/-! what is drawn -/
inductive OddV (H : Hp) : V → Prop
  | non : OddV H .non
  | int : OddV H (.int 0)
  | str : OddV H (.str "a")
  | bl : OddV H (.bl true)
  | tup {a : Addr} {xs : List V} (h : H a = some (.tup xs)) : OddV H (.ref a)
  | lst {a : Addr} {xs : List V} (h : H a = some (.lst xs)) : OddV H (.ref a)
  | dic {a : Addr} {ks : List (Key × V)} (h : H a = some (.dK ks)) : OddV H (.ref a)
theorem OddV.extN {H H' : Hp} {v : V} (o : OddV H v) (s : ExtN H H') : OddV H' v := by
  cases o with
  | non => exact .non
  | int => exact .int
  | str => exact .str
  | bl => exact .bl
  | tup h => exact .tup (s _ _ h (fun _ z => nomatch z))
  | lst h => exact .lst (s _ _ h (fun _ z => nomatch z))
  | dic h => exact .dic (s _ _ h (fun _ z => nomatch z))
theorem OddV.same2 {H H' : Hp} {v : V} {p : Addr} (o : OddV H v) (ne : v ≠ .ref p) (s : Same2 H H' p) : OddV H' v := by
  cases o with
  | non => exact .non
  | int => exact .int
  | str => exact .str
  | bl => exact .bl
  | tup h => exact .tup (s _ _ (fun e => ne (congrArg V.ref e)) h)
  | lst h => exact .lst (s _ _ (fun e => ne (congrArg V.ref e)) h)
  | dic h => exact .dic (s _ _ (fun e => ne (congrArg V.ref e)) h)
theorem OddV.ty {K : PySem.W.Frag} {H : Hp} {v : V} (o : OddV H v) : ∃ t ∈ besT, ∀ H', ExtN H H' → TyX K H' v (.type t) := by
  cases o with
  | non => exact ⟨"NoneType", by decide, fun _ _ => .base .non⟩
  | int => exact ⟨"int", by decide, fun _ _ => .base (.int 0)⟩
  | str => exact ⟨"str", by decide, fun _ _ => .base (.str "a")⟩
  | bl => exact ⟨"bool", by decide, fun _ _ => .base (.bl true)⟩
  | tup h => exact ⟨"tuple", by decide, fun _ s => .base (.tup (s _ _ h (fun _ z => nomatch z)))⟩
  | lst h => exact ⟨"list", by decide, fun _ s => .base (.lst (s _ _ h (fun _ z => nomatch z)))⟩
  | dic h => exact ⟨"dict", by decide, fun _ s => .base (.dK (s _ _ h (fun _ z => nomatch z)))⟩
inductive BadV (K : PySem.W.Frag) (H : Hp) : V → Prop
  | non : BadV K H .non
  | int : BadV K H (.int 1)
  | str (z : Str) : BadV K H (.str z)
  | tup {a : Addr} {xs : List V} (h : H a = some (.tup xs)) : BadV K H (.ref a)
  | lot {a dx : Addr} {fs : List (Str × V)} (h : H a = some (.ins (gO K) dx fs)) : BadV K H (.ref a)
  | num {a dx : Addr} {fs : List (Str × V)} (h : H a = some (.ins (gNu K) dx fs)) : BadV K H (.ref a)
theorem BadV.extN {K : PySem.W.Frag} {H H' : Hp} {v : V} (o : BadV K H v) (s : ExtN H H') : BadV K H' v := by
  cases o with
  | non => exact .non
  | int => exact .int
  | str z => exact .str z
  | tup h => exact .tup (s _ _ h (fun _ z => nomatch z))
  | lot h => exact .lot (s _ _ h (fun _ z => nomatch z))
  | num h => exact .num (s _ _ h (fun _ z => nomatch z))
theorem IsRel.extN {K : PySem.W.Frag} {H H' : Hp} {p : Addr} {ns : List Str} (o : IsRel K H p ns) (s : ExtN H H') : IsRel K H' p ns := by
  obtain ⟨dx, n, l, R⟩ := o
  obtain ⟨dn, fn, hn⟩ := R.n
  obtain ⟨dl, tl, L⟩ := R.l
  exact ⟨dx, n, l, s _ _ R.ob (fun _ z => nomatch z), ⟨dn, fn, s _ _ hn (fun _ z => nomatch z)⟩, dl, tl, s _ _ L.ob (fun _ z => nomatch z), s _ _ L.ps (fun _ z => nomatch z), L.asc, L.fx, L.le⟩
theorem same_obj {H : Hp} {x dx : Addr} {o1 o2 : HO} (hx : H x = none) (hd : H dx = none) : Same H (upd (upd H dx o1) x o2) := fun c u e => by
  rw [upd_ne (ne_of_none e hx), upd_ne (ne_of_none e hd)]
  exact e
theorem same_made {H H' : Hp} {x dx : Addr} {o1 o2 : HO} (hx : H x = none) (hd : H dx = none) (s : Same2 (upd (upd H dx o1) x o2) H' x) : Same H H' := fun c u e => by
  refine s c u (ne_of_none e hx) ?_
  rw [upd_ne (ne_of_none e hx), upd_ne (ne_of_none e hd)]
  exact e
section
variable {P : Program} {w : World} {mg : Str → Option Value} {base : Heap} {K : PySem.W.Frag} {H H0 : Hp} {D : Ends} {Q : VK} {E : XK} {σ : L2.St}
theorem np_read {z : Str} (hz : isFixB z = true) (k : ∀ q H', Same H H' → IsLot K H' q [z] → Q (.ref q) H') : tNP K z σ H Q := by
  show Oo.wNew (gO K) (spStar (spLi K)) E0 [.str z] H Q
  exact new_of (K := K) (xs := [.str z]) (MkLot.good (ss := [z]) (by show 1 ≤ 1000; decide) (fun x hx => by rw [List.mem_singleton.mp hx]; exact hz) fun H1 s1 => ⟨fun _ H2 p dx tp s2 O => k p H2 (s1.trans s2) ⟨dx, tp, O⟩, fun h => absurd h (by have := lined_len [z]; simp at this; omega)⟩)
theorem np2_read (k : ∀ q H', Same H H' → IsLot K H' q ["a", "b"] → Q (.ref q) H') : tNP2 K "a" "b" σ H Q := by
  have e : lined ["a", "b"] = (["a", "b"] : List Str) := by decide +kernel
  show Oo.wNew (gO K) (spStar (spLi K)) E0 [.str "a", .str "b"] H Q
  refine new_of (K := K) (xs := [.str "a", .str "b"]) (MkLot.good (ss := ["a", "b"]) (by show 2 ≤ 1000; decide) (fun x hx => List.all_eq_true.mp (show (["a", "b"] : List Str).all isFixB = true by decide +kernel) x hx) fun H1 s1 => ⟨fun _ H2 p dx tp s2 O => ?_, fun h => absurd h (by rw [e]; decide)⟩)
  rw [e] at O
  exact k p H2 (s1.trans s2) ⟨dx, tp, O⟩
theorem num_new {a b : Int} (h1 : 1 ≤ a) (h2 : a ≤ 6) (h3 : 0 ≤ b) (h4 : b ≤ 59) (k : ∀ p dx fs H', Same H H' → H' p = some (.ins (gNu K) dx fs) → Q (.ref p) H') :
    ∀ x dx, H x = none → H dx = none → dx ≠ x → spNuI K (.ref x :: ([.int a, .int b] ++ [])) (upd (upd H dx (.own x)) x (.ins (gNu K) dx [])) (fun z H3 => z = .non ∧ Q (.ref x) H3) E :=
  fun x dx hx hd ne => ⟨x, dx, a, b, rfl, upd_same, h1, h2, h3, h4, fun H' s e => ⟨rfl, k x dx _ H' (same_made hx hd s) e⟩⟩
theorem rel_new {v u : V} (kv : KeptV K H v) (ku : KeptV K H u) (k : ∀ p dx H', Same H H' → H' p = some (.ins (gRe K) dx [("number", v), ("lot", u)]) → Q (.ref p) H') :
    ∀ x dx, H x = none → H dx = none → dx ≠ x → spReIv K (.ref x :: ([v, u] ++ [])) (upd (upd H dx (.own x)) x (.ins (gRe K) dx [])) (fun z H3 => z = .non ∧ Q (.ref x) H3) E :=
  fun x dx hx hd ne => ⟨x, dx, v, u, rfl, ku.new hx, upd_same, kv.same (same_obj hx hd), ku.same (same_obj hx hd), fun H' s e => ⟨rfl, k x dx H' (same_made hx hd s) e⟩⟩
/-- a lambda that is refused with a way -/
def RaisesW (K : PySem.W.Frag) (t : XK → TE) (σ : L2.St) (H0 : Hp) (v : Str) : Prop := ∀ H1, ExtN H0 H1 → ∀ (E : XK) (Q : VK), (∀ H2, Same H1 H2 → Bad1 (He.ga K "BadWay") "value" H2 E (.str v)) → t E σ H1 Q
theorem told_bad (T : KF P w K mg base) {v : V} (b : BadV K H v) : Told K H v false := by
  have k2 := kit2 T
  obtain ⟨_, clN, _⟩ := T.gk ("Number", 32) (by decide)
  cases b with
  | non => exact .no (fun _ _ => .base .non) (k2.br _ (by decide))
  | int => exact .no (fun _ _ => .base (.int 1)) (k2.br _ (by decide))
  | str z => exact .no (fun _ _ => .base (.str z)) (k2.br _ (by decide))
  | tup h => exact .no (fun _ s => .base (.tup (s _ _ h))) (k2.br _ (by decide))
  | lot h => exact .no (fun _ s => ty_lot T (s _ _ h)) k2.lr
  | num h => exact .no (fun _ s => ty_ins T clN (rB T).2.2.1 (s _ _ h)) k2.nr
variable {v1 v2 : V} {g : Addr} {ns : List Str}
theorem rf1 (T : KF P w K mg base) (h1 : σ[1]? = some (some v1)) (o : OddV H0 v1) : RaisesW K (tF1 K) σ H0 "gained" := fun H1 e1 E Q bd => by
  obtain ⟨t, mt, ty⟩ := o.ty (K := K)
  refine ⟨_, h1, _, h1, fun u dx nu nd ne => ⟨u, dx, v1, v1, rfl, upd_same, .inl ⟨_, ty _ (e1.trans (Same.extN (same_obj nu nd))), (kit2 T).bl t mt, bd _ (same_obj nu nd)⟩⟩⟩
theorem rf2 (T : KF P w K mg base) (h1 : σ[1]? = some (some v1)) (o : OddV H0 v1) : RaisesW K (tF2 K) σ H0 "lost" := fun H1 e1 E Q bd => by
  obtain ⟨t, mt, ty⟩ := o.ty (K := K)
  show tNP K "a" σ H1 (fun x H2 => tVar 1 σ H2 fun y H3 => ∀ u dx, H3 u = none → H3 dx = none → dx ≠ u → spNoIx K (.ref u :: ([x, y] ++ [])) (upd (upd H3 dx (.own u)) u (.ins (gNo K) dx [])) (fun v H3 => v = .non ∧ Q (.ref u) H3) E)
  refine np_read (by decide +kernel) fun q H2 s2 O => ⟨_, h1, fun u dx nu nd ne => ?_⟩
  have s3 := same_obj (o1 := .own u) (o2 := .ins (gNo K) dx []) nu nd
  exact ⟨u, dx, .ref q, v1, rfl, upd_same, .inr (.inl ⟨q, _, _, rfl, O.same s3, ty _ (e1.trans (Same.extN (s2.trans s3))), (kit2 T).bl t mt, bd _ (s2.trans s3)⟩)⟩
theorem rf3 : RaisesW K (tF3 K) σ H0 "both" := fun H1 e1 E Q bd => by
  show tNP2 K "a" "b" σ H1 (fun x H2 => tNP K "b" σ H2 fun y H3 => ([] : List V).length = 0 ∧ [x, y].length = 2 ∧ ∀ u dx, H3 u = none → H3 dx = none → dx ≠ u → spNoIx K (gV3 (.ref u :: []) [x, y]) (upd (upd H3 dx (.own u)) u (.ins (gNo K) dx [])) (fun v H3 => v = .non ∧ Q (.ref u) H3) E)
  refine np2_read fun q H2 s2 O2 => np_read (by decide +kernel) fun q3 H3 s3 O3 => ⟨rfl, rfl, fun u dx nu nd ne => ?_⟩
  have s4 := same_obj (o1 := .own u) (o2 := .ins (gNo K) dx []) nu nd
  exact ⟨u, dx, .ref q3, .ref q, rfl, upd_same, .inr (.inr ⟨q3, q, _, _, rfl, rfl, O3.same s4, O2.same (s3.trans s4), by decide +kernel, fun H5 s5 => bd _ (s2.trans (s3.trans (s4.trans s5)))⟩)⟩
theorem rf4 (T : KF P w K mg base) (h2 : σ[2]? = some (some v2)) (b : BadV K H0 v2) : RaisesW K (tF4 K) σ H0 "release" := fun H1 e1 E Q bd => by
  refine ⟨_, h2, _, h2, ?_⟩
  exact ⟨v2, v2, rfl, .inl ⟨told_bad T (b.extN e1), bd _ fun _ _ e => e⟩⟩
theorem rf5 (T : KF P w K mg base) (h2 : σ[2]? = some (some v2)) (h3 : σ[3]? = some (some (.ref g))) (b : BadV K H0 v2) (r : IsRel K H0 g ns) : RaisesW K (tF5 K) σ H0 "other" := fun H1 e1 E Q bd => by
  refine ⟨_, h3, _, h2, ?_⟩
  exact ⟨.ref g, v2, rfl, .inr ⟨told_rel T (r.extN e1), told_bad T (b.extN e1), bd _ fun _ _ e => e⟩⟩
theorem rf6 (T : KF P w K mg base) (h3 : σ[3]? = some (some (.ref g))) : RaisesW K (tF6 K) σ H0 "release" := fun H1 e1 E Q bd => by
  obtain ⟨_, clN, _⟩ := T.gk ("Number", 32) (by decide)
  show ∀ x dx, H1 x = none → H1 dx = none → dx ≠ x → spNuI K (.ref x :: ([.int 1, .int 0] ++ [])) (upd (upd H1 dx (.own x)) x (.ins (gNu K) dx [])) (fun z H2 => z = .non ∧ (tT1 "a" σ H2 fun y H3 => ∀ x' dx, H3 x' = none → H3 dx = none → dx ≠ x' → spReIv K (.ref x' :: ([.ref x, y] ++ [])) (upd (upd H3 dx (.own x')) x' (.ins (gRe K) dx [])) (fun z H4 => z = .non ∧ (tVar 3 σ H4 fun o H5 => spNofX K ([.ref x', o] ++ []) H5 Q E)) E0)) E0
  refine num_new (Q := fun n H2 => tT1 "a" σ H2 fun y H3 => ∀ x' dx, H3 x' = none → H3 dx = none → dx ≠ x' → spReIv K (.ref x' :: ([n, y] ++ [])) (upd (upd H3 dx (.own x')) x' (.ins (gRe K) dx [])) (fun z H4 => z = .non ∧ (tVar 3 σ H4 fun o H5 => spNofX K ([.ref x', o] ++ []) H5 Q E)) E0) (by decide) (by decide) (by decide) (by decide) fun n dn fn H2 s2 hn => ⟨by show 1 ≤ sizeLine; decide, fun t nt => ?_⟩
  have s3 := same_new (o := .tup [V.str "a"]) nt
  refine rel_new (Q := fun r H4 => tVar 3 σ H4 fun o H5 => spNofX K ([r, o] ++ []) H5 Q E) (.num (s3 _ _ hn)) (.tup upd_same (by show 1 ≤ 1000; decide) (fun x hx => by rw [List.mem_singleton.mp hx]; exact plain_str "a")) fun r dr H4 s4 hr => ⟨_, h3, ?_⟩
  refine ⟨.ref r, .ref g, rfl, .inl ⟨.lot (t := .ref (gNu K)) (t2 := .type "tuple") hr (fun H' s => ty_ins T clN (rB T).2.2.1 (s _ _ (s4 _ _ (s3 _ _ hn)))) (kits T).uu (fun H' s => .base (.tup (s _ _ (s4 _ _ upd_same)))) ((kit2 T).bl _ (by decide)), bd _ (s2.trans (s3.trans s4))⟩⟩
theorem rf7 (T : KF P w K mg base) (h3 : σ[3]? = some (some (.ref g))) (r : IsRel K H0 g ns) : RaisesW K (tF7 K) σ H0 "other" := fun H1 e1 E Q bd => by
  refine ⟨_, h3, by show 2 ≤ sizeLine; decide, fun t nt => ?_⟩
  have s2 := same_new (o := .tup [V.int 1, V.int 0]) nt
  show tNP K "a" σ (upd H1 t (.tup [V.int 1, V.int 0])) (fun y H3 => ∀ x' dx, H3 x' = none → H3 dx = none → dx ≠ x' → spReIv K (.ref x' :: ([.ref t, y] ++ [])) (upd (upd H3 dx (.own x')) x' (.ins (gRe K) dx [])) (fun z H4 => z = .non ∧ ([V.ref g].length = 1 ∧ [V.ref x'].length = 1 ∧ spNofX K (gV7 [.ref g] [.ref x']) H4 Q E)) E0)
  refine np_read (by decide +kernel) fun q H3 s3 O3 => ?_
  obtain ⟨dl, tl, L⟩ := O3
  have ht := s3 _ _ (upd_same (H := H1) (a := t) (o := .tup [V.int 1, V.int 0]))
  refine rel_new (Q := fun r H4 => [V.ref g].length = 1 ∧ [r].length = 1 ∧ spNofX K (gV7 [.ref g] [r]) H4 Q E) (.tup ht (by show 2 ≤ 1000; decide) (fun x hx => by simp only [List.mem_cons, List.not_mem_nil, or_false] at hx; rcases hx with rfl | rfl <;> exact plain_int _)) (.lot L.ob) fun r' dr H4 s4 hr => ⟨rfl, rfl, ?_⟩
  exact ⟨.ref g, .ref r', rfl, .inr ⟨told_rel T ((r.extN e1).same (s2.trans (s3.trans s4))), .num (t := .type "tuple") hr (fun H' s => .base (.tup (s _ _ (s4 _ _ ht)))) ((kit2 T).bu _ (by decide)), bd _ (s2.trans (s3.trans s4))⟩⟩
theorem ne_odd {F : Bool → Hp → Prop} (h1 : σ[1]? = some (some v1)) (o : OddV H v1) (ky : v1 ≠ .str "a" → F true H) (kn : v1 = .str "a" → F false H) : tTest (tOp (rNeDD K) (tVar 1) (tC (V.str "a"))) σ H F := by
  have sa : SeqAt.shaped (.str "a") = true := by decide +kernel
  cases o with
  | non => exact ⟨_, h1, .inl ⟨.none, .str "a", .non, .str _, rfl, sa, _, rfl, ky fun z => nomatch z⟩⟩
  | int => exact ⟨_, h1, .inl ⟨.int 0, .str "a", .int _, .str _, rfl, sa, _, rfl, ky fun z => nomatch z⟩⟩
  | bl => exact ⟨_, h1, .inl ⟨.bool true, .str "a", .bl _, .str _, rfl, sa, _, rfl, ky fun z => nomatch z⟩⟩
  | str => exact ⟨_, h1, .inl ⟨.str "a", .str "a", .str _, .str _, sa, sa, _, rfl, by
      have : (!PyData.eqv (.str "a") (.str "a")) = false := by decide +kernel
      rw [this]
      exact kn rfl⟩⟩
  | tup h => exact ⟨_, h1, .inr ⟨_, _, "a", rfl, rfl, h, .inr (.inr ⟨_, rfl⟩), _, rfl, ky fun z => nomatch z⟩⟩
  | lst h => exact ⟨_, h1, .inr ⟨_, _, "a", rfl, rfl, h, .inr (.inl ⟨_, rfl⟩), _, rfl, ky fun z => nomatch z⟩⟩
  | dic h => exact ⟨_, h1, .inr ⟨_, _, "a", rfl, rfl, h, .inl ⟨_, rfl⟩, _, rfl, ky fun z => nomatch z⟩⟩
theorem odd_ty {t : String} (o : OddV H v1) (ne : v1 ≠ .str "a") : ∃ t, kitB t "str" = some false ∧ ∀ H', Same H H' → TyX K H' v1 (.type t) := by
  cases o with
  | non => exact ⟨"NoneType", by decide +kernel, fun _ _ => .base .non⟩
  | int => exact ⟨"int", by decide +kernel, fun _ _ => .base (.int 0)⟩
  | str => exact absurd rfl ne
  | bl => exact ⟨"bool", by decide +kernel, fun _ _ => .base (.bl true)⟩
  | tup h => exact ⟨"tuple", by decide +kernel, fun _ s => .base (.tup (s _ _ h))⟩
  | lst h => exact ⟨"list", by decide +kernel, fun _ s => .base (.lst (s _ _ h))⟩
  | dic h => exact ⟨"dict", by decide +kernel, fun _ s => .base (.dK (s _ _ h))⟩
theorem rf8 (T : KF P w K mg base) (h1 : σ[1]? = some (some v1)) (o : OddV H0 v1) : ∀ H1, ExtN H0 H1 → ∀ (E : XK) (Q : VK), (∀ H2, Same H1 H2 → BadE K H2 E (.int 0) (.int 0)) → tF8 K E σ H1 Q := fun H1 e1 E Q bd => by
  have o1 := o.extN e1
  refine ⟨rfl, ?_⟩
  refine ne_odd h1 o1 (fun ne => if_posB rfl ⟨_, h1, ?_⟩) (fun e => if_negB rfl ?_)
  · obtain ⟨t, kt, ty⟩ := odd_ty (K := K) (t := "") o1 ne
    exact ⟨v1, rfl, .inr ⟨t, kt, fun H' s => ⟨ty H' s, bd H' s⟩⟩⟩
  · exact ⟨.non, rfl, .inr ⟨"NoneType", by decide +kernel, fun H' s => ⟨.base .non, bd H' s⟩⟩⟩
end
end K7
set_option Elab.async false
set_option linter.all false
set_option maxRecDepth 100000
set_option maxHeartbeats 1000000
/-! _law_refused_right: what is heard, what is due. -/
namespace K7
open PySem PySem.Spec PyProof.Rows L2 RV EV He EF EI Hd LamX Kw
abbrev WayP (H : Hp) (r : Addr) (v : Str) : Prop := H r = some (.tup [.str "way", .str (reprText v)])
abbrev tApH (K : PySem.W.Frag) (t : XK → TE) : TS := tDrop (tBM K "list" rAppend (tVar 4) (tCons (tHd K t) tNil))
def wayD (v : Str) : PyData := .tuple [.str "way", .str (reprText v)]
theorem ways_same {H H' : Hp} {rs : List Addr} {vs : List Str} (h : Each WayP H rs vs) (s : ExtN H H') : Each WayP H' rs vs := Each.imp (P' := WayP) (fun _ _ e => s _ _ e (fun _ z => nomatch z)) h
theorem dp_ways {K : PySem.W.Frag} {H : Hp} : ∀ {rs : List Addr} {vs : List Str}, Each WayP H rs vs → DpAll K H (refs rs) (vs.map wayD)
  | [], [], _ => .nil
  | _ :: _, _ :: _, h => .cons (.tup (SqT.of h.1) (.cons (.str _) (.cons (.str _) .nil))) (dp_ways h.2)
  | [], _ :: _, h => h.elim
  | _ :: _, [], h => h.elim
theorem dp_app {K : PySem.W.Frag} {H : Hp} : ∀ {xs ys : List V} {ds es : List PyData}, DpAll K H xs ds → DpAll K H ys es → DpAll K H (xs ++ ys) (ds ++ es)
  | [], _, [], _, _, h => h
  | _ :: _, _, _ :: _, _, h, h2 => by
    cases h with
    | cons a b => exact .cons a (dp_app b h2)
theorem way_keep {H : Hp} {L a : Addr} {xs : List V} {o : HO} {x : Str} (hL : H L = some (.lst xs)) (e : WayP H a x) : WayP (upd H L o) a x := by
  have e2 : H a = some (.tup [.str "way", .str (reprText x)]) := e
  show upd H L o a = _
  rw [upd_ne fun z => by rw [z, hL] at e2; exact nomatch (Option.some.inj e2)]
  exact e
def dueD : PyData := .list (partsL.map wayD ++ [.tuple [.int 0, .int 0]])
theorem lay_ways : ∀ vs : List Str, (∀ v ∈ vs, PyData.strOk (reprText v) = true) → PyData.canLayAll0 (vs.map wayD ++ [.tuple [.int 0, .int 0]]) = true
  | [], _ => by decide +kernel
  | v :: r, h => by
    have h1 := h v (List.mem_cons_self ..)
    have hw : PyData.strOk "way" = true := by decide +kernel
    have ih := lay_ways r fun x hx => h x (List.mem_cons_of_mem _ hx)
    rw [List.map_cons, List.cons_append]
    unfold PyData.canLayAll0
    rw [ih, Bool.and_true]
    unfold wayD
    simp [PyData.canLay0, PyData.canLayAll0, h1, hw]
theorem depth_ways : ∀ vs : List Str, PyData.depthAll (vs.map wayD ++ [.tuple [.int 0, .int 0]]) ≤ 1
  | [] => by decide +kernel
  | v :: r => by
    have ih := depth_ways r
    rw [List.map_cons, List.cons_append]
    unfold PyData.depthAll
    have : (wayD v).depth ≤ 1 := by
      unfold wayD
      simp [PyData.depth, PyData.depthAll]
    omega
theorem lay_due : PyData.canLay0 dueD = true := by
  have := lay_ways partsL fun v hv => repr_ok (parts_ok v hv).1
  unfold dueD PyData.canLay0
  exact this
theorem shaped_due : SeqAt.shaped dueD = true := by
  unfold SeqAt.shaped
  rw [lay_due, Bool.true_and]
  refine decide_eq_true ?_
  have := depth_ways partsL
  unfold dueD PyData.depth
  omega
theorem eqv_due : PyData.eqv dueD dueD = true := PySem.SeqAt.eqv_refl dueD lay_due
section
variable {P : Program} {w : World} {mg : Str → Option Value} {base : Heap} {K : PySem.W.Frag} {H H0 : Hp} {D : Ends} {Q : VK} {E : XK} {σ : L2.St} {t : XK → TE} {v : Str}
theorem hd_way (hT : Tabs (TL K) H) (e0 : ExtN H0 H) (h : RaisesW K t σ H0 v) (hv : v ∈ partsL) (k : ∀ r H', ExtN H H' → Tabs (TL K) H' → WayP H' r v → Q (.ref r) H') : tHd K t σ H Q := by
  refine ⟨hT, fun H1 e1 T1 => ?_⟩
  obtain ⟨sv, lv⟩ := parts_ok v hv
  refine h H1 (e0.trans e1) (ErrH K Q) _ fun H2 s2 d nd => .inr ⟨d, v, rfl, rfl, upd_same, repr_len sv lv, fun r H3 s3 hr => ?_⟩
  have s := s2.trans ((same_new nd).trans s3)
  exact k r H3 (e1.trans (Same.extN s)) (T1.ext s) hr
theorem hd_bad (hT : Tabs (TL K) H) (e0 : ExtN H0 H) (h : ∀ H1, ExtN H0 H1 → ∀ (E : XK) (Q : VK), (∀ H2, Same H1 H2 → BadE K H2 E (.int 0) (.int 0)) → t E σ H1 Q) (k : ∀ r H', ExtN H H' → Tabs (TL K) H' → H' r = some (.tup [.int 0, .int 0]) → Q (.ref r) H') : tHd K t σ H Q := by
  refine ⟨hT, fun H1 e1 T1 => ?_⟩
  refine h H1 (e0.trans e1) (ErrH K Q) _ fun H2 s2 d nd => .inl ⟨d, .int 0, .int 0, rfl, rfl, upd_same, fun r H3 s3 hr => ?_⟩
  have s := s2.trans ((same_new nd).trans s3)
  exact k r H3 (e1.trans (Same.extN s)) (T1.ext s) hr
theorem tabs_lst {L : Addr} {xs ys : List V} (hT : Tabs (TL K) H) (hL : H L = some (.lst xs)) : Tabs (TL K) (upd H L (.lst ys)) := tabs_two hT hL (fun _ z => nomatch z) (fun _ z => nomatch z) fun c o hc e => by rw [upd_ne hc]; exact e
theorem ext_lst {L : Addr} {ys : List V} (e0 : ExtN H0 H) (nL : H0 L = none) : ExtN H0 (upd H L (.lst ys)) := fun c o e n => by
  rw [upd_ne (ne_of_none e nL)]
  exact e0 c o e n
/-- the run: what is heard so far -/
structure Run (K : PySem.W.Frag) (H0 H : Hp) (L : Addr) (rs : List Addr) (vs : List Str) : Prop where
  ex : ExtN H0 H
  tb : Tabs (TL K) H
  nL : H0 L = none
  hL : H L = some (.lst (refs rs))
  ws : Each WayP H rs vs
theorem ap_way {L : Addr} {rs : List Addr} {vs : List Str} (R : Run K H0 H L rs vs) (h4 : σ[4]? = some (some (.ref L))) (hl : rs.length ≤ 8) (h : RaisesW K t σ H0 v) (hv : v ∈ partsL) (k : ∀ r H', Run K H0 H' L (rs ++ [r]) (vs ++ [v]) → D.nx σ H') : tApH K t D σ H := by
  refine ⟨_, h4, .inl ⟨rfl, _, SqL.of R.hL⟩, ?_⟩
  refine hd_way R.tb R.ex h hv fun r H1 e1 T1 hr => ?_
  have hL1 := e1 _ _ R.hL (fun _ z => nomatch z)
  refine ⟨L, _, _, rfl, rfl, hL1, by rw [List.length_map, sizeLine_eq]; omega, k r _ ⟨ext_lst (R.ex.trans e1) R.nL, tabs_lst T1 hL1, R.nL, ?_, ?_⟩⟩
  · rw [upd_same]
    unfold refs
    rw [List.map_append]
    rfl
  · exact Each.snoc (Each.imp (fun _ _ e => way_keep hL1 e) (ways_same R.ws e1)) (way_keep hL1 hr)
theorem ap_bad {L : Addr} {rs : List Addr} {vs : List Str} (R : Run K H0 H L rs vs) (h4 : σ[4]? = some (some (.ref L))) (hl : rs.length ≤ 8) (h : ∀ H1, ExtN H0 H1 → ∀ (E : XK) (Q : VK), (∀ H2, Same H1 H2 → BadE K H2 E (.int 0) (.int 0)) → t E σ H1 Q)
    (k : ∀ r H', ExtN H0 H' → Tabs (TL K) H' → H' L = some (.lst (refs (rs ++ [r]))) → Each WayP H' rs vs → H' r = some (.tup [.int 0, .int 0]) → D.nx σ H') : tApH K t D σ H := by
  refine ⟨_, h4, .inl ⟨rfl, _, SqL.of R.hL⟩, ?_⟩
  refine hd_bad R.tb R.ex h fun r H1 e1 T1 hr => ?_
  have hL1 := e1 _ _ R.hL (fun _ z => nomatch z)
  refine ⟨L, _, _, rfl, rfl, hL1, by rw [List.length_map, sizeLine_eq]; omega, k r _ (ext_lst (R.ex.trans e1) R.nL) (tabs_lst T1 hL1) ?_ (Each.imp (fun _ _ e => way_keep hL1 e) (ways_same R.ws e1)) ?_⟩
  · rw [upd_same]
    unfold refs
    rw [List.map_append]
    rfl
  · rw [upd_ne fun z => by rw [z, hL1] at hr; exact nomatch (Option.some.inj hr)]
    exact hr
/-! what is due -/
def tDuW (K : PySem.W.Frag) : TE := tLc (iTup K (tTup (tCons (tC (V.str "gained")) (tCons (tC (V.str "lost")) (tCons (tC (V.str "both")) (tCons (tC (V.str "release")) (tCons (tC (V.str "other")) (tCons (tC (V.str "release")) (tCons (tC (V.str "other")) tNil))))))))) (gName 6) tYes
  (tTup (tCons (tC (V.str "way")) (tCons (tCB Oo.rRepT (tCons (tVar 6) tNil)) tNil))) [6]
theorem duw_read {v0 v1 v2 v3 v4 v5 v6 : Option V} (k : ∀ L rs H', Same H H' → H' L = some (.lst (refs rs)) → Each WayP H' rs partsL → Q (.ref L) H') : tDuW K [v0, v1, v2, v3, v4, v5, v6] H Q := by
  refine ⟨by show 7 ≤ sizeLine; decide, fun t nt => ?_⟩
  have st := same_new (o := .tup (partsL.map V.str)) nt
  have ht : (upd H t (.tup (partsL.map V.str))) t = some (.tup (partsL.map V.str)) := upd_same
  refine ⟨t, rfl, ⟨_, SqT.of ht⟩, fun D0 nD => ?_⟩
  refine lc_it (σ := [v0, v1, v2, v3, v4, v5, v6]) (vs := [6]) (walk_tup (K := K) (a := t) (xs := partsL.map V.str))
    (fun n H' => Same (upd H t (.tup (partsL.map V.str))) H' ∧ ∃ rs, rs.length = n ∧ H' D0 = some (.lst (refs rs)) ∧ Each WayP H' rs (partsL.take n)) ⟨fun c o e => by rw [upd_ne (ne_of_none e nD)]; exact e, [], rfl, upd_same, trivial⟩ (fun n H' _ q => SqT.of (q.1 _ _ ht)) ?_ ?_
  · rintro n x H4 H5 hn ⟨s4, rs, hl, hD, hW⟩ ⟨rfl, hx⟩
    rw [List.length_map] at hn
    have hx2 : partsL[n]? = some (partsL.getD n "") := getD_at hn
    have hx : (partsL.map V.str)[n]? = some x := hx
    rw [List.getElem?_map, hx2] at hx
    obtain rfl : V.str (partsL.getD n "") = x := Option.some.inj hx
    have hm : partsL.getD n "" ∈ partsL := List.mem_of_getElem? hx2
    obtain ⟨sv, lv⟩ := parts_ok _ hm
    have more : partsL.take (n + 1) = partsL.take n ++ [partsL.getD n ""] := by
      have e := List.take_succ_eq_append_getElem hn
      rw [e]
      congr 2
      first
        | done
        | exact Option.some.inj ((List.getElem?_eq_getElem hn).symm.trans hx2)
    refine ⟨rfl, yes_go ?_⟩
    refine ⟨_, rfl, _, rfl, repr_len sv lv, by show 2 ≤ sizeLine; decide, fun q nq => ?_⟩
    have s5 := same_new (o := .tup [V.str "way", V.str (reprText (partsL.getD n ""))]) nq
    have hD5 := s5 _ _ hD
    have hp : partsL.length = 7 := rfl
    refine ⟨_, hD5, by rw [List.length_map, hl, sizeLine_eq]; omega, fun c o e => ?_, rs ++ [q], by rw [List.length_append, hl]; rfl, ?_, ?_⟩
    · rw [upd_ne (ne_of_none e nD)]
      exact s5 _ _ (s4 _ _ e)
    · rw [upd_same]
      unfold refs
      rw [List.map_append]
      rfl
    · rw [more]
      exact Each.snoc (Each.imp (fun _ _ e => way_keep hD5 e) (ways_same hW (Same.extN s5))) (way_keep hD5 upd_same)
  · rintro H4 ⟨s4, rs, hl, hD, hW⟩
    rw [List.length_map, List.take_length] at hW
    exact k D0 rs H4 (st.trans s4) hD hW
def tFin (K : PySem.W.Frag) : TS := tRet (tOp (rEqD K) (tVar 4) (tOp rCat (tVar 5) (tLst (tCons (tTup (tCons (tC (V.int 0)) (tCons (tC (V.int 0)) tNil))) tNil))))
theorem fin_read {L B r : Addr} {rs ds : List Addr} (h4 : σ[4]? = some (some (.ref L))) (h5 : σ[5]? = some (some (.ref B))) (hL : H L = some (.lst (refs (rs ++ [r])))) (ws : Each WayP H rs partsL) (hr : H r = some (.tup [.int 0, .int 0])) (hB : H B = some (.lst (refs ds))) (wd : Each WayP H ds partsL)
    (k : ∀ H', Same H H' → D.rt (.bl true) H') : tFin K D σ H := by
  refine ⟨_, h4, _, h5, by show 2 ≤ sizeLine; decide, fun t nt => ⟨by show 1 ≤ sizeLine; decide, fun l nl => ?_⟩⟩
  have s1 := same_new (o := .tup [V.int 0, V.int 0]) nt
  have s2 := same_new (o := .lst [V.ref t]) nl
  have hd := wd.len
  have hp : partsL.length = 7 := rfl
  refine ⟨B, l, _, _, rfl, rfl, s2 _ _ (s1 _ _ hB), upd_same, by rw [List.length_map, hd, hp, sizeLine_eq]; show 7 + 1 ≤ 16777216; decide, fun c nc => ?_⟩
  have s3 := same_new (o := .lst (refs ds ++ [V.ref t])) nc
  have s := s1.trans (s2.trans s3)
  have z0 : ∀ H' a, H' a = some (.tup [.int 0, .int 0]) → Dp K H' (.ref a) (.tuple [.int 0, .int 0]) := fun H' a e => .tup (SqT.of e) (.cons (.int _) (.cons (.int _) .nil))
  refine ⟨dueD, dueD, .lst (SqL.of (s _ _ hL)) ?_, .lst (SqL.of upd_same) ?_, shaped_due, shaped_due, ?_⟩
  · unfold refs
    rw [List.map_append]
    exact dp_app (dp_ways (ways_same ws (Same.extN s))) (.cons (z0 _ _ (s _ _ hr)) .nil)
  · exact dp_app (dp_ways (ways_same wd (Same.extN s))) (.cons (z0 _ _ (s3 _ _ (s2 _ _ upd_same))) .nil)
  · rw [eqv_due]
    exact k _ s
end
end K7
set_option Elab.async false
set_option linter.all false
set_option maxRecDepth 100000
set_option maxHeartbeats 1000000
/-! _law_refused_right: whole. -/
namespace K7
open PySem PySem.Spec PyProof.Rows L2 RV EV He EF EI Hd LamX Kw
abbrev sRfl : Stmt := top 51
abbrev scRfl_N : List Str := ["_law_pen_here", "_law_odd", "_law_bad", "_law_good", "_law_heard_here", "_law_due_here", "_law_part"]
theorem scRfl : FnScope scRfl_N ["_law_pen_here"] (defScope sRfl) := ⟨rfl, rfl, rfl, by decide +kernel, rfl, by decide +kernel, by decide +kernel⟩
abbrev qRf : Str × Nat := ("_law_refused_right", 51)
def tPK1 : TE := tCall spPick [] E0 (tCons (tVar 0) (tCons (tLst (tCons (tC .non) (tCons (tC (V.int 0)) (tCons (tC (V.str "a")) (tCons (tT1 "a") (tCons (tLst (tCons (tC (V.str "a")) tNil)) (tCons tDNewK (tCons (tC (V.bl true)) tNil)))))))) tNil))
def tPK2 (K : PySem.W.Frag) : TE := tCall spPick [] E0 (tCons (tVar 0) (tCons (tLst (tCons (tC .non) (tCons (tC (V.int 1)) (tCons (tC (V.str "1.0 a")) (tCons (tTup tNil) (tCons (tNP K "a") (tCons (tNu K 1 0) tNil))))))) tNil))
def tG1 (K : PySem.W.Frag) : TS := tAsg (tTup (tCons tPK1 (tCons (tPK2 K) tNil))) (gTup K 2 (gCons (gName 1) (gCons (gName 2) gNil)))
def tGood (K : PySem.W.Frag) : TE := tRv K (tNu K 1 0) (tNP K "a")
def tG2 (K : PySem.W.Frag) : TS := tAsg (tGood K) (gName 3)
def tG3 (K : PySem.W.Frag) : TS := tAsg (tLst (tCons (tHd K (tF1 K)) tNil)) (gName 4)
def tG5 (K : PySem.W.Frag) : TS := tAsg (tDuW K) (gName 5)
def tRf (K : PySem.W.Frag) : TS := tSeq (tG1 K) (tSeq (tG2 K) (tSeq (tG3 K) (tSeq (tApH K (tF2 K)) (tSeq (tApH K (tF3 K)) (tSeq (tApH K (tF4 K)) (tSeq (tApH K (tF5 K)) (tSeq (tApH K (tF6 K)) (tSeq (tApH K (tF7 K)) (tSeq (tApH K (tF8 K)) (tSeq (tG5 K) (tFin K)))))))))))
def spRf (K : PySem.W.Frag) : Sp := fun vs H Q _ => ∃ (p a : Addr) (cs : List Int) (b g : Int), vs = [.ref p] ∧ Pen H p a cs b g ∧ b ≤ 980 ∧ Tabs (TL K) H ∧ ∀ (b' g' : Int) (H' : Hp), b' ≤ b + 2 → Pen H' p a cs b' g' → Tabs (TL K) H' → Q (.bl true) H'
theorem tabs_up {K : PySem.W.Frag} {H H' : Hp} {p a : Addr} {cs : List Int} {b g : Int} (t : Tabs (TL K) H) (N : Pen H p a cs b g) (s : Same2 H H' p) : Tabs (TL K) H' := tabs_two t N.pn (fun _ z => nomatch z) (fun _ z => nomatch z) s
section
variable {P : Program} {w : World} {mg : Str → Option Value} {base : Heap} {K : PySem.W.Frag} {H H0 : Hp} {D : Ends} {Q : VK} {E : XK} {σ : L2.St} {p a : Addr} {cs : List Int} {b g : Int}
theorem pen_ne {q : Addr} (N : Pen H p a cs b g) (nq : H q = none) : q ≠ p := fun e => by
  rw [e, N.pn] at nq
  cases nq
theorem pick_odd (h0 : σ[0]? = some (some (.ref p))) (N : Pen H p a cs b g) (hb : b ≤ 990) (hT : Tabs (TL K) H) (k : ∀ v b' g' H', OddV H' v → v ≠ .ref p → b' ≤ b + 1 → Pen H' p a cs b' g' → Tabs (TL K) H' → Q v H') : tPK1 σ H Q := by
  refine ⟨_, h0, by show 1 ≤ sizeLine; decide, fun t nt => ⟨by show 1 ≤ sizeLine; decide, fun l nl => fun d nd => ⟨by show 7 ≤ sizeLine; decide, fun L nL => ?_⟩⟩⟩
  have s1 := same_new (o := .tup [V.str "a"]) nt
  have s2 := same_new (o := .lst [V.str "a"]) nl
  have s3 := same_new (o := .dK []) nd
  have s4 := same_new (o := .lst [V.non, V.int 0, V.str "a", V.ref t, V.ref l, V.ref d, V.bl true]) nL
  have N1 := Pen.same N s1
  have N2 := Pen.same N1 s2
  have N3 := Pen.same N2 s3
  have N4 := Pen.same N3 s4
  have tp := pen_ne N nt
  have lp := pen_ne N1 nl
  have dp := pen_ne N2 nd
  have Lp := pen_ne N3 nL
  refine ⟨p, a, L, cs, b, g, _, rfl, N4, by omega, Lp, upd_same, by simp, by show 7 < 1000; decide, fun v b' g' H' hv hb' N' s' => ?_⟩
  have T' := tabs_up (hT.ext (s1.trans (s2.trans (s3.trans s4)))) N4 s'
  simp only [List.mem_cons, List.not_mem_nil, or_false] at hv
  rcases hv with rfl | rfl | rfl | rfl | rfl | rfl | rfl
  · exact k _ b' g' H' .non (fun z => nomatch z) hb' N' T'
  · exact k _ b' g' H' .int (fun z => nomatch z) hb' N' T'
  · exact k _ b' g' H' .str (fun z => nomatch z) hb' N' T'
  · exact k _ b' g' H' (.tup (s' _ _ tp (s4 _ _ (s3 _ _ (s2 _ _ upd_same))))) (fun z => tp (V.ref.inj z)) hb' N' T'
  · exact k _ b' g' H' (.lst (s' _ _ lp (s4 _ _ (s3 _ _ upd_same)))) (fun z => lp (V.ref.inj z)) hb' N' T'
  · exact k _ b' g' H' (.dic (s' _ _ dp (s4 _ _ upd_same))) (fun z => dp (V.ref.inj z)) hb' N' T'
  · exact k _ b' g' H' .bl (fun z => nomatch z) hb' N' T'
theorem pick_bad (h0 : σ[0]? = some (some (.ref p))) (N : Pen H p a cs b g) (hb : b ≤ 990) (hT : Tabs (TL K) H) (k : ∀ v b' g' H', BadV K H' v → b' ≤ b + 1 → Pen H' p a cs b' g' → Tabs (TL K) H' → Same2 H H' p → Q v H') : tPK2 K σ H Q := by
  refine ⟨_, h0, by show 0 ≤ sizeLine; decide, fun t nt => ?_⟩
  show tNP K "a" σ (upd H t (.tup [])) (fun x H1 => tNu K 1 0 σ H1 fun y H2 => ([.non, .int 1, .str "1.0 a", .ref t, x, y] : List V).length ≤ sizeLine ∧ ∀ L, H2 L = none → spPick [.ref p, .ref L] (upd H2 L (.lst [.non, .int 1, .str "1.0 a", .ref t, x, y])) Q E0)
  have s1 := same_new (o := .tup []) nt
  refine np_read (by decide +kernel) fun q H2 s2 O2 => ?_
  obtain ⟨dl, tl, O⟩ := O2
  refine num_new (Q := fun y H2 => ([.non, .int 1, .str "1.0 a", .ref t, .ref q, y] : List V).length ≤ sizeLine ∧ ∀ L, H2 L = none → spPick [.ref p, .ref L] (upd H2 L (.lst [.non, .int 1, .str "1.0 a", .ref t, .ref q, y])) Q E0) (by decide) (by decide) (by decide) (by decide) fun n dn fn H3 s3 hn => ⟨by show 6 ≤ sizeLine; decide, fun L nL => ?_⟩
  have s4 := same_new (o := .lst [V.non, V.int 1, V.str "1.0 a", V.ref t, V.ref q, V.ref n]) nL
  have sA := s1.trans (s2.trans (s3.trans s4))
  have N3 := Pen.same N (s1.trans (s2.trans s3))
  have N4 := Pen.same N sA
  have tp := pen_ne N nt
  refine ⟨p, a, L, cs, b, g, _, rfl, N4, by omega, pen_ne N3 nL, upd_same, by simp, by show 6 < 1000; decide, fun v b' g' H' hv hb' N' s' => ?_⟩
  have T' := tabs_up (hT.ext sA) N4 s'
  have s := fun c o (hc : c ≠ p) (e : H c = some o) => s' c o hc (sA c o e)
  have qp : q ≠ p := fun e => by
    have z := O.ob
    rw [e, (Pen.same N (s1.trans s2)).pn] at z
    cases z
  have np : n ≠ p := fun e => by
    have z := hn
    rw [e, N3.pn] at z
    cases z
  simp only [List.mem_cons, List.not_mem_nil, or_false] at hv
  rcases hv with rfl | rfl | rfl | rfl | rfl | rfl
  · exact k _ b' g' H' .non hb' N' T' s
  · exact k _ b' g' H' .int hb' N' T' s
  · exact k _ b' g' H' (.str _) hb' N' T' s
  · exact k _ b' g' H' (.tup (s' _ _ tp (s4 _ _ (s3 _ _ (s2 _ _ upd_same))))) hb' N' T' s
  · exact k _ b' g' H' (.lot (s' _ _ qp (s4 _ _ (s3 _ _ O.ob)))) hb' N' T' s
  · exact k _ b' g' H' (.num (s' _ _ np (s4 _ _ hn))) hb' N' T' s
theorem good_read (k : ∀ x H', Same H H' → IsRel K H' x ["a"] → Q (.ref x) H') : tGood K σ H Q := by
  refine num_new (Q := fun n H2 => tNP K "a" σ H2 fun y H3 => ∀ x' dx, H3 x' = none → H3 dx = none → dx ≠ x' → spReIv K (.ref x' :: ([n, y] ++ [])) (upd (upd H3 dx (.own x')) x' (.ins (gRe K) dx [])) (fun z H4 => z = .non ∧ Q (.ref x') H4) E0) (by decide) (by decide) (by decide) (by decide) fun n dn fn H2 s2 hn => ?_
  refine np_read (by decide +kernel) fun q H3 s3 O3 => ?_
  have O3' := O3
  obtain ⟨dl, tl, L⟩ := O3'
  exact rel_new (.num (s3 _ _ hn)) (.lot L.ob) fun r dr H4 s4 hr => k r H4 (s2.trans (s3.trans s4)) ⟨dr, n, q, hr, ⟨dn, fn, s4 _ _ (s3 _ _ hn)⟩, O3.same s4⟩
theorem g2_read {v0 v1 v2 v3 v4 v5 v6 : Option V} (k : ∀ x H', Same H H' → IsRel K H' x ["a"] → D.nx [v0, v1, v2, some (.ref x), v4, v5, v6] H') : tG2 K D [v0, v1, v2, v3, v4, v5, v6] H :=
  good_read (Q := fun x H' => gName 3 x [v0, v1, v2, v3, v4, v5, v6] H' D.nx) fun x H' s r => k x H' s r
theorem g3_read {v0 v1 v2 v3 v4 v5 v6 : Option V} (hT : Tabs (TL K) H) (h : RaisesW K (tF1 K) [v0, v1, v2, v3, v4, v5, v6] H "gained") (k : ∀ r H', ExtN H H' → Tabs (TL K) H' → WayP H' r "gained" → ∀ L, H' L = none → D.nx [v0, v1, v2, v3, some (.ref L), v5, v6] (upd H' L (.lst [.ref r]))) : tG3 K D [v0, v1, v2, v3, v4, v5, v6] H :=
  hd_way (t := tF1 K) (v := "gained") (Q := fun x H' => [x].length ≤ sizeLine ∧ ∀ L, H' L = none → gName 4 (.ref L) [v0, v1, v2, v3, v4, v5, v6] (upd H' L (.lst [x])) D.nx) hT (fun _ _ e _ => e) h (by decide) fun r H' e T' hr => ⟨by show 1 ≤ sizeLine; decide, fun L nL => k r H' e T' hr L nL⟩
theorem g5_read {v0 v1 v2 v3 v4 v5 v6 : Option V} (k : ∀ L rs H', Same H H' → H' L = some (.lst (refs rs)) → Each WayP H' rs partsL → D.nx [v0, v1, v2, v3, v4, some (.ref L), v6] H') : tG5 K D [v0, v1, v2, v3, v4, v5, v6] H :=
  duw_read (Q := fun x H' => gName 5 x [v0, v1, v2, v3, v4, v5, v6] H' D.nx) fun L rs H' s h w => k L rs H' s h w
theorem read_rf (T : KF P w K mg base) {vs : List V} (h : spRf K vs H Q E) : tRf K { nx := fun _ H' => Q .non H', rt := Q } (L2.start scRfl_N vs) H := by
  obtain ⟨p, a, cs, b, g, rfl, N, hb, hT, k⟩ := h
  have e : L2.start scRfl_N [.ref p] = [some (.ref p), none, none, none, none, none, none] := rfl
  rw [e]
  refine pick_odd rfl N (by omega) hT fun v1 b1 g1 H1 o1 ne1 hb1 N1 T1 => ?_
  refine pick_bad rfl N1 (by omega) T1 fun v2 b2 g2 H2 o2 hb2 N2 T2 s2 => ?_
  have od2 := o1.same2 ne1 s2
  refine ⟨by show 2 ≤ sizeLine; decide, fun t nt => ?_⟩
  have s3 := same_new (o := .tup [v1, v2]) nt
  refine ⟨t, _, rfl, SqT.of upd_same, rfl, _, _, rfl, _, _, rfl, rfl, ?_⟩
  show tSeq (tG2 K) _ _ [some (.ref p), some v1, some v2, none, none, none, none] _
  refine g2_read fun gd H4 s4 r4 => ?_
  have s24 := s3.trans s4
  have N4 := Pen.same N2 s24
  have T4 := T2.ext s24
  have od4 := od2.extN (Same.extN s24)
  have bd4 := o2.extN (Same.extN s24)
  refine g3_read T4 (rf1 T rfl od4) fun r1 H5 e5 T5 hr1 L nL => ?_
  have od := od4.extN e5
  have bd := bd4.extN e5
  have rl := IsRel.extN r4 e5
  have N5 := N4.extN e5
  have s6 := same_new (o := .lst [V.ref r1]) nL
  have R1 : Run K H5 (upd H5 L (.lst [V.ref r1])) L [r1] ["gained"] := ⟨Same.extN s6, T5.ext s6, nL, upd_same, ⟨s6 _ _ hr1, trivial⟩⟩
  refine ap_way (σ := [some (.ref p), some v1, some v2, some (.ref gd), some (.ref L), none, none]) R1 rfl (by simp) (rf2 T rfl od) (by decide) fun r2 H6 R2 => ?_
  refine ap_way (σ := [some (.ref p), some v1, some v2, some (.ref gd), some (.ref L), none, none]) R2 rfl (by simp) rf3 (by decide) fun r3 H7 R3 => ?_
  refine ap_way (σ := [some (.ref p), some v1, some v2, some (.ref gd), some (.ref L), none, none]) R3 rfl (by simp) (rf4 T rfl bd) (by decide) fun r4 H8 R4 => ?_
  refine ap_way (σ := [some (.ref p), some v1, some v2, some (.ref gd), some (.ref L), none, none]) R4 rfl (by simp) (rf5 T rfl rfl bd rl) (by decide) fun r5 H9 R5 => ?_
  refine ap_way (σ := [some (.ref p), some v1, some v2, some (.ref gd), some (.ref L), none, none]) R5 rfl (by simp) (rf6 (g := gd) T rfl) (by decide) fun r6 H10 R6 => ?_
  refine ap_way (σ := [some (.ref p), some v1, some v2, some (.ref gd), some (.ref L), none, none]) R6 rfl (by simp) (rf7 T rfl rl) (by decide) fun r7 H11 R7 => ?_
  refine ap_bad (σ := [some (.ref p), some v1, some v2, some (.ref gd), some (.ref L), none, none]) R7 rfl (by simp) (rf8 T rfl od) fun r8 H12 e12 T12 hL12 w12 hr8 => ?_
  refine g5_read fun B ds H13 s13 hB wd => ?_
  have w13 := ways_same w12 (Same.extN s13)
  refine fin_read (σ := [some (.ref p), some v1, some v2, some (.ref gd), some (.ref L), some (.ref B), none]) rfl rfl (s13 _ _ hL12) w13 (s13 _ _ hr8) hB wd fun H14 s14 => ?_
  have s := s13.trans s14
  exact k b2 g2 H14 (by omega) (Pen.same (N5.extN e12) s) (T12.ext s)
theorem x_note (T : KF P w K mg base) : ∃ fd, FnOk P w K mg base (L2.CX P w) 4 (ma K (gNo K) "__init__") fd ["self", "gained", "lost"] (spNoIx K) ∧ L2.Binds K fd ["self", "gained", "lost"] [] ∧ KBn K fd ["self", "gained", "lost"] 1 ["lost", "gained"] (fun us ws => us ++ Kw.sel [1, 0] ws) gV3 := by
  obtain ⟨fd, F⟩ := T.ik ("Note", 39) (by decide)
  refine ⟨fd, ok_noIx T F, FunD.bindsN F fun _ _ _ _ _ _ us hl => match us, hl with | [_, _, _], _ => rfl, ⟨fun s us ws _ h1 h2 => ?_, fun r rz => r.append (vals_sel rz _)⟩⟩
  obtain ⟨oc, od, dV, kV, doc, pm, an, cdv, ct, osl, rfl, lk, hcd, hD, hK⟩ := F.ex
  rcases hD with ⟨_, rfl⟩ | ⟨e, _⟩
  · match us, ws, h1, h2 with
    | [a], [b, c], _, _ => exact .of_eq rfl
  · exact absurd rfl e
theorem x_nof (T : KF P w K mg base) : ∃ fd, FnOk P w K mg base (L2.CX P w) 9 (ga K "note_of") fd ["release", "other"] (spNofX K) ∧ L2.Binds K fd ["release", "other"] [] ∧ PySem.W.keepIn K (.ref (ga K "note_of")) = true ∧ mg "note_of" = some (.ref (ga K "note_of")) ∧
    KBn K fd ["release", "other"] 1 ["other"] (fun us ws => us ++ ws) gV7 := by
  obtain ⟨fd, F, g⟩ := T.tops ("note_of", 36) (by decide)
  refine ⟨fd, ok_nofX T F, FunD.bindsN F fun _ _ _ _ _ _ us hl => match us, hl with | [_, _], _ => rfl, F.kp, g, ⟨fun s us ws _ h1 h2 => ?_, fun r rz => r.append rz⟩⟩
  obtain ⟨oc, od, dV, kV, doc, pm, an, cdv, ct, osl, rfl, lk, hcd, hD, hK⟩ := F.ex
  rcases hD with ⟨_, rfl⟩ | ⟨e, _⟩
  · match us, ws, h1, h2 with
    | [a], [b], _, _ => exact .of_eq rfl
  · exact absurd rfl e
theorem code_rf (T : KF P w K mg base) (TB : TabB base mg (cc K qRf).1 (cc K qRf).2) {f : Addr} {A : Around} {outer : List Env} {s : Shared} {H : Hp} {E : XK} {cdv : Value} (hcd : cdv = .ref (cc K qRf).1) (hr : Room 13 (A.deeper (envOfC "_law_refused_right" (defScope sRfl) s.heap.objs.size f cdv))) :
    ∃ t, PSs (cxOf CX0 P w K mg base scRfl_N "_law_refused_right" (defScope sRfl) f cdv A outer s H E) (defBody sRfl) t ∧ t = tRf K := by
  obtain ⟨fI, GI, bI, kI, gI⟩ := c_pick (w := w) T
  obtain ⟨fn, _, _, mn, gn⟩ := mk_note (w := w) T
  obtain ⟨fx, Gx, bx, kbx⟩ := x_note (w := w) T
  obtain ⟨fo, Go, bo, ko, go, kbo⟩ := x_nof (w := w) T
  obtain ⟨fu, Gu, bu, mu, gu⟩ := mk_num (w := w) T
  obtain ⟨fr, Gr, br, mr, gr⟩ := mk_relv (w := w) T
  obtain ⟨fm, Gm, bm, _⟩ := c_nr (w := w) T
  have hu := hr.units
  have nd := scRfl.nd
  have hm : ((cc K qRf).2, qOf qRf) ∈ TL K := tl_mem (by decide)
  have hu2 := tl_one T (q := qRf) (by decide)
  refine ⟨_, PSs.nox
    (pss_cons (ps_asg (pe_tup (pa_cons (pe_call (E := E0) GI (hr.mono (by decide)) (by rfl) gI kI bI .nil pass0 (pa_cons (pv 0) (pa_cons (pe_lst (pa_cons pe_non (pa_cons pe_int (pa_cons pe_str (pa_cons (pe_tup (pa_cons pe_str pa_nil)) (pa_cons (pe_lst (pa_cons pe_str pa_nil)) (pa_cons pe_dnewK (pa_cons pe_bl pa_nil)))))))) pa_nil)))
        (pa_cons (pe_call (E := E0) GI (hr.mono (by decide)) (by rfl) gI kI bI .nil pass0 (pa_cons (pv 0) (pa_cons (pe_lst (pa_cons pe_non (pa_cons pe_int (pa_cons pe_str (pa_cons (pe_tup pa_nil) (pa_cons (Oo.pe_newP (E := E0) T.mko (ok_li T) (hr.mono (by decide)) (by rfl) T.go passL (pa_cons pe_str pa_nil))
          (pa_cons (pe_make (E := E0) mu Gu (hr.mono (by decide)) (by rfl) gu bu .nil passL (pa_cons pe_int (pa_cons pe_int pa_nil))) pa_nil))))))) pa_nil))) pa_nil))) (pg_tup (by rfl) (pgs_cons (pg_name (i := 1) nd rfl (.inr rfl)) (pgs_cons (pg_name (i := 2) nd rfl (.inr rfl)) pgs_nil))))
    (pss_cons (ps_set (i := 3) nd rfl (.inr rfl) (pe_make (E := E0) mr Gr (hr.mono (by decide)) (by rfl) gr br .nil passL (pa_cons (pe_make (E := E0) mu Gu (hr.mono (by decide)) (by rfl) gu bu .nil passL (pa_cons pe_int (pa_cons pe_int pa_nil))) (pa_cons (Oo.pe_newP (E := E0) T.mko (ok_li T) (hr.mono (by decide)) (by rfl) T.go passL (pa_cons pe_str pa_nil)) pa_nil))))
    (pss_cons (ps_set (i := 4) nd rfl (.inl rfl) (pe_lst (pa_cons (pe_heard (k := 10) (t := tF1 K) T TB hcd hm hu2 (by rfl) (hr.mono (by decide)) (lamS_by (by show lamSB (defScope sRfl) _ = true; decide +kernel)) rfl (fun _ _ _ _ _ => rfl)
        (fun A2 out2 s2 H2 E2 f2 c2 hr2 => pe_make (E := E2) mn Gx (hr2.mono (by decide)) (by rfl) gn bx .nil (passes_call (takes_of rfl rfl rfl rfl) fun _ _ _ _ h => h) (pa_cons (pv 1) (pa_cons (pv 1) pa_nil)))) pa_nil)))
    (pss_cons (ps_expr (pe_bm PySem.F.plainAttrs_list PySem.F.slot_list_append PySem.F.type_list_append mt_append (pv 4) (pa_cons (pe_heard (k := 10) (t := tF2 K) T TB hcd hm hu2 (by rfl) (hr.mono (by decide)) (lamS_by (by show lamSB (defScope sRfl) _ = true; decide +kernel)) rfl (fun _ _ _ _ _ => rfl)
        (fun A2 out2 s2 H2 E2 f2 c2 hr2 => pe_make (E := E2) mn Gx (hr2.mono (by decide)) (by rfl) gn bx .nil (passes_call (takes_of rfl rfl rfl rfl) fun _ _ _ _ h => h) (pa_cons (Oo.pe_newP (E := E0) T.mko (ok_li T) (hr2.mono (by decide)) (by rfl) T.go passL (pa_cons pe_str pa_nil)) (pa_cons (pv 1) pa_nil)))) pa_nil)))
    (pss_cons (ps_expr (pe_bm PySem.F.plainAttrs_list PySem.F.slot_list_append PySem.F.type_list_append mt_append (pv 4) (pa_cons (pe_heard (k := 10) (t := tF3 K) T TB hcd hm hu2 (by rfl) (hr.mono (by decide)) (lamS_by (by show lamSB (defScope sRfl) _ = true; decide +kernel)) rfl (fun _ _ _ _ _ => rfl)
        (fun A2 out2 s2 H2 E2 f2 c2 hr2 => pe_makeKw (E := E2) (ks := ["lost", "gained"]) mn Gx (hr2.mono (by decide)) (by rfl) gn kbx (passes_call (takes_of rfl rfl rfl rfl) fun _ _ _ _ h => h) (pk_cons (Oo.pe_newP (E := E0) T.mko (ok_li T) (hr2.mono (by decide)) (by rfl) T.go passL (pa_cons pe_str (pa_cons pe_str pa_nil))) (pk_cons (Oo.pe_newP (E := E0) T.mko (ok_li T) (hr2.mono (by decide)) (by rfl) T.go passL (pa_cons pe_str pa_nil)) pk_nil)))) pa_nil)))
    (pss_cons (ps_expr (pe_bm PySem.F.plainAttrs_list PySem.F.slot_list_append PySem.F.type_list_append mt_append (pv 4) (pa_cons (pe_heard (k := 10) (t := tF4 K) T TB hcd hm hu2 (by rfl) (hr.mono (by decide)) (lamS_by (by show lamSB (defScope sRfl) _ = true; decide +kernel)) rfl (fun _ _ _ _ _ => rfl)
        (fun A2 out2 s2 H2 E2 f2 c2 hr2 => pe_call (E := E2) Go (hr2.mono (by decide)) (by rfl) go ko bo .nil (passes_call (takes_of rfl rfl rfl rfl) fun _ _ _ _ h => h) (pa_cons (pv 2) (pa_cons (pv 2) pa_nil)))) pa_nil)))
    (pss_cons (ps_expr (pe_bm PySem.F.plainAttrs_list PySem.F.slot_list_append PySem.F.type_list_append mt_append (pv 4) (pa_cons (pe_heard (k := 10) (t := tF5 K) T TB hcd hm hu2 (by rfl) (hr.mono (by decide)) (lamS_by (by show lamSB (defScope sRfl) _ = true; decide +kernel)) rfl (fun _ _ _ _ _ => rfl)
        (fun A2 out2 s2 H2 E2 f2 c2 hr2 => pe_call (E := E2) Go (hr2.mono (by decide)) (by rfl) go ko bo .nil (passes_call (takes_of rfl rfl rfl rfl) fun _ _ _ _ h => h) (pa_cons (pv 3) (pa_cons (pv 2) pa_nil)))) pa_nil)))
    (pss_cons (ps_expr (pe_bm PySem.F.plainAttrs_list PySem.F.slot_list_append PySem.F.type_list_append mt_append (pv 4) (pa_cons (pe_heard (k := 10) (t := tF6 K) T TB hcd hm hu2 (by rfl) (hr.mono (by decide)) (lamS_by (by show lamSB (defScope sRfl) _ = true; decide +kernel)) rfl (fun _ _ _ _ _ => rfl)
        (fun A2 out2 s2 H2 E2 f2 c2 hr2 => pe_call (E := E2) Go (hr2.mono (by decide)) (by rfl) go ko bo .nil (passes_call (takes_of rfl rfl rfl rfl) fun _ _ _ _ h => h)
          (pa_cons (pe_make (E := E0) mr Gr (hr2.mono (by decide)) (by rfl) gr br .nil passL (pa_cons (pe_make (E := E0) mu Gu (hr2.mono (by decide)) (by rfl) gu bu .nil passL (pa_cons pe_int (pa_cons pe_int pa_nil))) (pa_cons (pe_tup (pa_cons pe_str pa_nil)) pa_nil))) (pa_cons (pv 3) pa_nil)))) pa_nil)))
    (pss_cons (ps_expr (pe_bm PySem.F.plainAttrs_list PySem.F.slot_list_append PySem.F.type_list_append mt_append (pv 4) (pa_cons (pe_heard (k := 10) (t := tF7 K) T TB hcd hm hu2 (by rfl) (hr.mono (by decide)) (lamS_by (by show lamSB (defScope sRfl) _ = true; decide +kernel)) rfl (fun _ _ _ _ _ => rfl)
        (fun A2 out2 s2 H2 E2 f2 c2 hr2 => pe_callN (E := E2) (ks := ["other"]) (n := 1) Go (hr2.mono (by decide)) (by rfl) go ko kbo (passes_call (takes_of rfl rfl rfl rfl) fun _ _ _ _ h => h) (pa_cons (pv 3) pa_nil)
          (pk_cons (pe_make (E := E0) mr Gr (hr2.mono (by decide)) (by rfl) gr br .nil passL (pa_cons (pe_tup (pa_cons pe_int (pa_cons pe_int pa_nil))) (pa_cons (Oo.pe_newP (E := E0) T.mko (ok_li T) (hr2.mono (by decide)) (by rfl) T.go passL (pa_cons pe_str pa_nil)) pa_nil))) pk_nil))) pa_nil)))
    (pss_cons (ps_expr (pe_bm PySem.F.plainAttrs_list PySem.F.slot_list_append PySem.F.type_list_append mt_append (pv 4) (pa_cons (pe_heard (k := 10) (t := tF8 K) T TB hcd hm hu2 (by rfl) (hr.mono (by decide)) (lamS_by (by show lamSB (defScope sRfl) _ = true; decide +kernel)) rfl (fun _ _ _ _ _ => rfl)
        (fun A2 out2 s2 H2 E2 f2 c2 hr2 => Oo.pe_smeth (E := E2) (pe_glob (v := .ref (gNo K)) (by rfl) gn rfl) (creadN T) (smetN T) (Oo.FnOk.r0 Gm bm) (hr2.mono (by decide)) (passes_call (takes_of rfl rfl rfl rfl) fun _ _ _ _ h => h)
          (pa_cons (pe_ifExp (pt_cmpR (op_neDD hr2.units) (pv 1) pe_str (nomark _)) (pv 1) pe_non) pa_nil))) pa_nil)))
    (pss_cons (ps_setLc (i := 5) (own := [("_law_part", 6)]) (g := gName 6) (tt := tYes) (te := tTup (tCons (tC (V.str "way")) (tCons (tCB Oo.rRepT (tCons (tVar 6) tNil)) tNil))) rfl nd rfl rfl (sw_true rfl rfl rfl (by decide +kernel))
        (pi_tup (pe_tup (pa_cons pe_str (pa_cons pe_str (pa_cons pe_str (pa_cons pe_str (pa_cons pe_str (pa_cons pe_str (pa_cons pe_str pa_nil)))))))))
        (blkOk_by (N := scRfl_N) (sc := defScope sRfl) (by decide +kernel)) (fun _ _ _ _ _ => pg_name (i := 6) nd rfl (.inl rfl)) (fun _ _ _ _ _ => pts_nil)
        (fun _ _ _ _ _ => pe_tup (pa_cons pe_str (pa_cons (pe_callB Oo.call_repr_txt (by rfl) (T.fr "repr" (by decide)) PyProof.Rows.boot_repr (pa_cons (pv 6) pa_nil)) pa_nil))))
    (pss_one (ps_ret (pe_cmpR (op_eqD hu) (pv 4) (pe_op op_cat (pv 5) (pe_lst (pa_cons (pe_tup (pa_cons pe_int (pa_cons pe_int pa_nil))) pa_nil))) (nomark _))))))))))))))), ?_⟩
  rfl
theorem ok_rf (T : KF P w K mg base) (TB : TabB base mg (cc K qRf).1 (cc K qRf).2) : Callee P w K mg base CX0 14 "_law_refused_right" ["_law_pen_here"] (spRf K) := by
  obtain ⟨fd, F, g⟩ := T.tops qRf (by decide)
  have b : L2.Binds K fd ["_law_pen_here"] [] := FunD.bindsN F fun _ _ _ _ _ _ us hl => match us, hl with | [_], _ => rfl
  have kp := F.kp
  obtain ⟨oc, od, dV, kV, doc, pm, an, cdv, ct, osl, rfl, lk, hcd, _, _⟩ := F.ex
  obtain ⟨c, rfl⟩ := He.codeIn_ref hcd
  have ec : (cc K qRf).1 = c := He.codeOf_eq (p := ("_law_refused_right", none)) lk rfl
  refine ⟨_, L2.fn_of lk hcd scRfl (fun vs H Q E h => ?_) (fun A outer s H vs Q E hr h => ?_), b, kp, g⟩
  · obtain ⟨p, a, cs, b, g, rfl, _⟩ := h
    rfl
  · obtain ⟨t, ht, rfl⟩ := code_rf (E := E) T TB (by rw [ec]) hr
    exact ⟨_, ht, read_rf T (E := E) h⟩
end
end K7
set_option Elab.async false
set_option linter.all false
set_option maxRecDepth 100000
set_option maxHeartbeats 1000000
/-! law: no Python here: a note's text is read again. -/
namespace K7
open PySem PySem.Spec PyProof.Rows L2 RV EV He EF EI
theorem plus_cps (c : Nat) (x : Str) : (plus ⟨#[c]⟩ x).cps.toList = c :: x.cps.toList := by
  show (((#[] ++ #[c]) ++ x.cps) : Array Nat).toList = _
  rw [Array.toList_append]
  rfl
theorem tl_plus (c : Nat) (x : Str) : tlS (plus ⟨#[c]⟩ x) = x := by
  refine ext_toList ?_
  rw [cps_tl, plus_cps]
  rfl
theorem hd_plus (c : Nat) (x : Str) : hdS (plus ⟨#[c]⟩ x) = ⟨#[c]⟩ := by
  refine ext_toList ?_
  rw [cps_hd, plus_cps]
  rfl
theorem plus_pl (x : Str) : plusB (plus "+" x) = true := by
  rw [plus_hd]
  exact decide_eq_true (hd_plus 43 x)
theorem plus_mi (x : Str) : plusB (plus "-" x) = false := by
  rw [plus_hd]
  refine decide_eq_false fun h => ?_
  have := (hd_plus 45 x).symm.trans h
  exact absurd this (by decide +kernel)
theorem minus_mi (x : Str) : minusB (plus "-" x) = true := by
  rw [minus_hd]
  exact decide_eq_true (hd_plus 45 x)
theorem plus_long (c : Nat) {x : Str} (h : isFixB x = true) : 2 ≤ (plus ⟨#[c]⟩ x).length := by
  have e : (plus ⟨#[c]⟩ x).length = (plus ⟨#[c]⟩ x).cps.toList.length := by rw [Array.length_toList]; rfl
  have e2 : x.length = x.cps.toList.length := by rw [Array.length_toList]; rfl
  unfold isFixB at h
  obtain ⟨h, _⟩ := Bool.and_eq_true_iff.mp h
  have := of_decide_eq_true h
  rw [e, plus_cps, List.length_cons, ← e2]
  omega
theorem fix_signs {x : Str} (h : isFixB x = true) : ∀ c ∈ x.cps.toList, 97 ≤ c ∧ c ≤ 122 := by
  intro c hc
  unfold isFixB at h
  obtain ⟨_, h⟩ := Bool.and_eq_true_iff.mp h
  obtain ⟨_, h⟩ := Bool.and_eq_true_iff.mp h
  have := List.all_eq_true.mp h c hc
  unfold letB at this
  obtain ⟨h1, h2⟩ := Bool.and_eq_true_iff.mp this
  exact ⟨of_decide_eq_true h1, of_decide_eq_true h2⟩
theorem plus_sok {c : Nat} {x : Str} (hc : c < 0x110000) (h : isFixB x = true) : SOk (plus ⟨#[c]⟩ x) := by
  intro d hd
  rw [plus_cps] at hd
  rcases List.mem_cons.mp hd with rfl | hd
  · exact hc
  · have := fix_signs h d hd
    omega
theorem plus_nospace {c : Nat} {x : Str} (hc : c ≠ 32) (h : isFixB x = true) : 32 ∉ (plus ⟨#[c]⟩ x).cps.toList := by
  intro hd
  rw [plus_cps] at hd
  rcases List.mem_cons.mp hd with e | hd
  · exact hc e.symm
  · have := fix_signs h 32 hd
    omega
theorem told_all {g l : List Str} {Pz : Str → Prop} (hg : ∀ x ∈ g, Pz (plus "+" x)) (hl : ∀ x ∈ l, Pz (plus "-" x)) : ∀ w ∈ toldL g l, Pz w := by
  intro w hw
  unfold toldL at hw
  rcases List.mem_append.mp hw with h | h
  · obtain ⟨x, hx, rfl⟩ := List.mem_map.mp h
    exact hg x hx
  · obtain ⟨x, hx, rfl⟩ := List.mem_map.mp h
    exact hl x hx
theorem GL.few1 {g l : List Str} (G : GL g l) : Few g := ⟨G.lg, G.fg⟩
theorem GL.few2 {g l : List Str} (G : GL g l) : Few l := ⟨G.ll, G.fl⟩
theorem wt_le {m : Nat} : ∀ {ws : List Str}, (∀ x ∈ ws, x.length ≤ m) → wt ws ≤ ws.length * (m + 1)
  | [], _ => by simp [wt]
  | x :: r, h => by
    have h1 := h x (List.mem_cons_self ..)
    have h2 := wt_le fun y hy => h y (List.mem_cons_of_mem _ hy)
    have : wt (x :: r) = x.length + 1 + wt r := by
      unfold wt
      simp only [List.map_cons, List.sum_cons, List.length_cons]
      omega
    rw [this, List.length_cons, Nat.add_mul, Nat.one_mul]
    omega
theorem text_ok {g l : List Str} (G : GL g l) : TextOk (noteText g l) ∧ (noteText g l).length ≤ 160 := by
  have h := told_few G.few1 G.few2
  have ok : SOk (noteText g l) ∧ (noteText g l).length ≤ 160 := by
    unfold noteText
    by_cases e : toldL g l = []
    · rw [if_pos e]
      refine ⟨fun c hc => ?_, by decide⟩
      have : ("-" : Str).cps.toList = [45] := rfl
      rw [this] at hc
      rw [List.mem_singleton.mp hc]
      decide
    · rw [if_neg e]
      refine ⟨joinT_sok (told_all (fun x hx => plus_sok (c := 43) (by decide) (G.fg x hx)) (fun x hx => plus_sok (c := 45) (by decide) (G.fl x hx))), ?_⟩
      have h1 := joinT_wt (toldL g l)
      have h2 := wt_le h.2
      have h3 := Nat.mul_le_mul_right 10 h.1
      omega
  exact ⟨⟨by omega, ok.1⟩, ok.2⟩
theorem text_dash {g l : List Str} (G : GL g l) : (noteText g l = "-") ↔ g ++ l = [] := by
  constructor
  · intro h
    rcases e : toldL g l with _ | ⟨w, r⟩
    · unfold toldL at e
      obtain ⟨e1, e2⟩ := List.append_eq_nil_iff.mp e
      rw [List.map_eq_nil_iff.mp e1, List.map_eq_nil_iff.mp e2]
      rfl
    · exfalso
      have hw : w ∈ toldL g l := by rw [e]; simp
      have h2 : 2 ≤ w.length := told_all (Pz := fun w => 2 ≤ w.length) (fun x hx => plus_long 43 (G.fg x hx)) (fun x hx => plus_long 45 (G.fl x hx)) w hw
      have ne : toldL g l ≠ [] := by rw [e]; simp
      unfold noteText at h
      rw [if_neg ne, TL.join_eq] at h
      have h3 := join_len _ " " w hw
      rw [h] at h3
      have : ("-" : Str).length = 1 := rfl
      omega
  · intro h
    obtain ⟨e1, e2⟩ := List.append_eq_nil_iff.mp h
    rw [e1, e2]
    rfl
theorem goR_minus {g : List Str} : ∀ (ls l1 : List Str) (i : Nat), GL g (l1 ++ ls) → goR (ls.map (plus "-")) g l1 i = .inl (g, l1 ++ ls)
  | [], l1, i, _ => by rw [List.append_nil]; rfl
  | y :: r, l1, i, G => by
    have hy : isFixB y = true := G.fl y (by simp)
    have ny : y ∉ g := fun h => apart_iff.mp G.ap y h (by simp)
    have hl : l1.length < 8 := by
      have := G.ll
      rw [List.length_append, List.length_cons] at this
      omega
    have last : (l1.isEmpty || decide (LtS (lastS l1) y)) = true := by
      by_cases e : l1 = []
      · rw [e]; rfl
      · have := (List.pairwise_append.mp G.al).2.2 (lastS l1) (last_mem e) y (by simp)
        rw [decide_eq_true this, Bool.or_true]
    have c : canB g l1 (plus "-" y) = true := by
      unfold canB
      rw [show tlS (plus "-" y) = y from tl_plus 45 y, hy, plus_mi, minus_mi, decide_eq_false ny, decide_eq_true hl, last]
      rfl
    rw [List.map_cons, goR_step, if_pos c, plus_mi, if_neg Bool.false_ne_true, show tlS (plus "-" y) = y from tl_plus 45 y, goR_minus r (l1 ++ [y]) (i + 1) (by rw [List.append_assoc]; exact G), List.append_assoc]
    rfl
theorem goR_plus {ls : List Str} : ∀ (gs g1 : List Str) (i : Nat), GL (g1 ++ gs) ls → goR (gs.map (plus "+") ++ ls.map (plus "-")) g1 [] i = .inl (g1 ++ gs, ls)
  | [], g1, i, G => by
    rw [List.append_nil] at G ⊢
    exact goR_minus ls [] i G
  | x :: r, g1, i, G => by
    have hx : isFixB x = true := G.fg x (by simp)
    have hl : g1.length < 8 := by
      have := G.lg
      rw [List.length_append, List.length_cons] at this
      omega
    have last : (g1.isEmpty || decide (LtS (lastS g1) x)) = true := by
      by_cases e : g1 = []
      · rw [e]; rfl
      · have := (List.pairwise_append.mp G.ag).2.2 (lastS g1) (last_mem e) x (by simp)
        rw [decide_eq_true this, Bool.or_true]
    have c : canB g1 [] (plus "+" x) = true := by
      unfold canB
      rw [show tlS (plus "+" x) = x from tl_plus 43 x, hx, plus_pl, decide_eq_true hl, last]
      rfl
    rw [List.map_cons, List.cons_append, goR_step, if_pos c, plus_pl, if_pos rfl, show tlS (plus "+" x) = x from tl_plus 43 x, goR_plus r (g1 ++ [x]) (i + 1) (by rw [List.append_assoc]; exact G), List.append_assoc]
    rfl
theorem read_text {g l : List Str} (G : GL g l) : readF (Txt.split (noteText g l) " ") = .inl (g, l) := by
  by_cases e : toldL g l = []
  · have e' := e
    unfold toldL at e'
    obtain ⟨e1, e2⟩ := List.append_eq_nil_iff.mp e'
    rw [List.map_eq_nil_iff.mp e1, List.map_eq_nil_iff.mp e2]
    decide +kernel
  · have hs : Txt.split (noteText g l) " " = toldL g l := by
      unfold noteText
      rw [if_neg e]
      exact TL.split_join (s := 32) (S := []) rfl (by decide +kernel) e (told_all (Pz := fun w => 32 ∉ w.cps.toList) (fun x hx => plus_nospace (c := 43) (by decide) (G.fg x hx)) (fun x hx => plus_nospace (c := 45) (by decide) (G.fl x hx)))
    rw [hs]
    have h0 : (toldL g l).getD 0 "" ≠ "-" := fun z => by
      have hp : 0 < (toldL g l).length := List.length_pos_iff.mpr e
      have hm : (toldL g l).getD 0 "" ∈ toldL g l := List.mem_of_getElem? (getD_at hp)
      have h2 : 2 ≤ ((toldL g l).getD 0 "").length := told_all (Pz := fun w => 2 ≤ w.length) (fun x hx => plus_long 43 (G.fg x hx)) (fun x hx => plus_long 45 (G.fl x hx)) _ hm
      rw [z] at h2
      have : ("-" : Str).length = 1 := rfl
      omega
    unfold readF
    rw [if_neg h0]
    exact goR_plus g [] 0 G
theorem gl_swap_apart {g l : List Str} (G : GL g l) : apartB l g = true := by
  have := G.ap
  rw [apart_iff] at this ⊢
  exact fun x hx hy => this x hy hx
theorem GL.swap {g l : List Str} (G : GL g l) : GL l g := ⟨G.al, G.ag, G.fl, G.fg, G.ll, G.lg, gl_swap_apart G⟩
theorem sift_ap {a b : List Str} (h : apartB a b = true) : sift a b false = a := by
  rw [apart_iff] at h
  unfold sift
  rw [List.filter_eq_self]
  intro x hx
  simp [h x hx]
/-! the texts at the end -/
def endL : List Str := ["", "- -", "-", "+", "-a +b", "+b +a", "+a -a", "+a +b +c +d +e +f +g +h", "+a +b +c +d +e +f +g +h +i", "+a ", " +a"]
theorem end_ok : ∀ x ∈ endL, TextOk x := by
  intro x hx
  have := List.all_eq_true.mp (show endL.all (fun x => x.cps.toList.all (fun c => decide (c < 0x110000)) && decide (x.length ≤ 900)) = true by decide +kernel) x hx
  obtain ⟨h1, h2⟩ := Bool.and_eq_true_iff.mp this
  exact ⟨of_decide_eq_true h2, fun c hc => of_decide_eq_true (List.all_eq_true.mp h1 c hc)⟩
def eightL : List Str := ("abcdefgh" : Str).cps.toList.map one
theorem eight_text : Txt.join " " (eightL.map (plus "+")) = "+a +b +c +d +e +f +g +h" := by decide +kernel
theorem eight_fix : ∀ x ∈ eightL, isFixB x = true := fun x hx => List.all_eq_true.mp (show eightL.all isFixB = true by decide +kernel) x hx
theorem eight_i : ("+a +b +c +d +e +f +g +h" : Str) ++ " +i" = "+a +b +c +d +e +f +g +h +i" := by decide +kernel
end K7
set_option Elab.async false
set_option linter.all false
set_option maxRecDepth 100000
set_option maxHeartbeats 1000000
/-! law: its readings, a statement each. -/
namespace K7
open PySem PySem.Spec PyProof.Rows L2 RV EV He EF EI Hd LamX Kw
abbrev tNoS : TS := tRet (tC (V.bl false))
abbrev tNgN (K : PySem.W.Frag) (te : TE) : TE := tUn (Oo.rNegO (gNo K) (spNeg K) E0) te
abbrev tNeN (K : PySem.W.Frag) (a b : TE) : TE := tOp (Oo.rNeO K (gNo K) (spEqN K) E0) a b
abbrev tTwoC : TE := tCall spTwo [] E0 (tCons (tVar 1) tNil)
abbrev tRR (K : PySem.W.Frag) (te : TE) : TT := tNot (tB (tCall (spRr K) [] E0 (tCons te tNil)))
abbrev tTxt (i j : Nat) : TE := tCall spTxt [] E0 (tCons (tVar i) (tCons (tVar j) tNil))
abbrev rTupO (K : PySem.W.Frag) : List V → Hp → VK → Prop := fun xs H Q => ∃ p ys, xs = [.ref p] ∧ ((SqL K H p ys ∧ ∀ l, H l = none → Q (.ref l) (upd H l (.tup ys))) ∨ (SqT K H p ys ∧ Q (.ref p) H))
def tL1 (K : PySem.W.Frag) : TS := tAsg tTwoC (gTup K 2 (gCons (gName 3) (gCons (gName 4) gNil)))
def tL2 (K : PySem.W.Frag) : TS := tPar 5 6 (tCons (tNoteOf K 3 4) (tCons (tTxt 3 4) tNil))
def tL3 (K : PySem.W.Frag) : TS := tIfS (tOr (tTest (tOp rNe (tSoN K (tVar 5)) (tVar 6))) (tOr (tRR K (tVar 6)) (tOr (tTest (tNeN K (tSMethKw (gNo K) (spNr K) [0] 1 E0 (tC (V.ref (gNo K))) (tCons (tVar 6) tNil)) (tVar 5)))
  (tTest (tOp rNe (tCB (Ow.rBoolO (gNo K) (spBoN K) E0) (tCons (tVar 5) tNil)) (tOp rNe (tVar 6) (tC (V.str "-")))))))) tNoS tNext
abbrev tFx (K : PySem.W.Frag) (f : Str) : TE := tFld K (tFld K (tVar 5) f) "fixes"
def tL4 (K : PySem.W.Frag) : TS := tIfS (tOr (tTest (tOp (rNeD K) (tFx K "gained") (tCB (rTupO K) (tCons (tVar 3) tNil)))) (tOr (tTest (tOp (rNeD K) (tFx K "lost") (tCB (rTupO K) (tCons (tVar 4) tNil)))) (tTest (tOp rNe (tSoN K (tNgN K (tVar 5))) (tTxt 4 3))))) tNoS tNext
def tL5 (K : PySem.W.Frag) : TS := tAsg tTwoC (gName 7)
abbrev tOth (K : PySem.W.Frag) (n : Int) : TE := tCall (spLlot K) [] E0 (tCons (tOp (rIxT K) (tVar 7) (tC (V.int n))) tNil)
def tL6 (K : PySem.W.Frag) : TS := tIfS (tOr (tTest (tOp rNe (tEqN K (tVar 5) (tMake (gNo K) (spNoI K) [] E0 (tCons (tOth K 0) (tCons (tOth K 1) tNil)))) (tOp (rEqD K) (tVar 7) (tTup (tCons (tVar 3) (tCons (tVar 4) tNil))))))
  (tOr (tTest (tNeN K (tNgN K (tNgN K (tVar 5))) (tVar 5))) (tTest (tEqN K (tVar 5) (tVar 6))))) tNoS tNext
def tL7 (K : PySem.W.Frag) : TS := tIfS (tTest (tNeN K (tCall (spNof K) [] E0 (tCons (tRv K (tNu K 2 1) (tFld K (tVar 5) "lost")) (tCons (tRv K (tNu K 1 0) (tFld K (tVar 5) "gained")) tNil))) (tVar 5))) tNoS tNext
abbrev tBent (i : Nat) : TE := tCall spBe [] E0 (tCons (tVar 1) (tCons (tVar i) tNil))
def tL8b (K : PySem.W.Frag) : TS := tSeq (tAsg (tBent 6) (gName 9)) (tIfS (tOr (tRR K (tVar 9)) (tRR K (tBent 9))) tNoS tNext)
def tL8 (K : PySem.W.Frag) : TS := tFor (iRng1 (tCons (tC (V.int 4)) tNil)) (gName 8) (tL8b K)
def tL9 (K : PySem.W.Frag) : TS := tIfS (tNot (tB (tCall (spRf K) [] E0 (tCons (tVar 1) tNil)))) tNoS tNext
def tLb (K : PySem.W.Frag) : TS := tSeq (tL1 K) (tSeq (tL2 K) (tSeq (tL3 K) (tSeq (tL4 K) (tSeq (tL5 K) (tSeq (tL6 K) (tSeq (tL7 K) (tSeq (tL8 K) (tL9 K))))))))
theorem note_at {K : PySem.W.Frag} {H : Hp} {m : Addr} {g l : List Str} (h : IsNote K H m g l) : ∃ dx fs, H m = some (.ins (gNo K) dx fs) := let ⟨dx, _, _, N⟩ := h; ⟨dx, _, N.ob⟩
theorem rows_extN {H H' : Hp} {a : Addr} {xs : List Str} (r : RowP H a xs) (s : ExtN H H') : RowP H' a xs := s _ _ r (fun _ z => nomatch z)
theorem note_same2 {K : PySem.W.Frag} {H H' : Hp} {p a m : Addr} {cs : List Int} {b g : Int} {gs ls : List Str} (N : Pen H p a cs b g) (h : IsNote K H m gs ls) (s : Same2 H H' p) : IsNote K H' m gs ls := by
  have sN : ∀ c o, (∀ xs, o ≠ .lst xs) → H c = some o → H' c = some o := fun c o n e => s c o (fun z => by rw [z, N.pn] at e; exact n _ (Option.some.inj e).symm) e
  obtain ⟨dx, g, l, NO⟩ := h
  obtain ⟨dg, tg, G⟩ := NO.g
  obtain ⟨dl, tl, L⟩ := NO.l
  exact ⟨dx, g, l, sN _ _ (fun _ z => nomatch z) NO.ob, ⟨dg, tg, sN _ _ (fun _ z => nomatch z) G.ob, sN _ _ (fun _ z => nomatch z) G.ps, G.asc, G.fx, G.le⟩, ⟨dl, tl, sN _ _ (fun _ z => nomatch z) L.ob, sN _ _ (fun _ z => nomatch z) L.ps, L.asc, L.fx, L.le⟩⟩
theorem emp_dec (xs : List Str) : xs.isEmpty = decide (xs = []) := by cases xs <;> simp
section
variable {P : Program} {w : World} {mg : Str → Option Value} {base : Heap} {K : PySem.W.Frag} {H : Hp} {D : Ends} {Q : VK} {σ : L2.St} {p a m ga la : Addr} {cs : List Int} {b g : Int} {gs ls : List Str}
  {v0 v2 a3 a4 a5 a6 a7 a8 a9 a10 a11 : Option V}
theorem lw1 (N : Pen H p a cs b g) (hb : b ≤ 900) (hT : Tabs (TL K) H) (k : ∀ ga la gs ls b' g' H', TwoOk gs ls → b' ≤ b + 7 → Pen H' p a cs b' g' → Tabs (TL K) H' → RowP H' ga gs → RowP H' la ls → D.nx [v0, some (.ref p), v2, some (.ref ga), some (.ref la), a5, a6, a7, a8, a9, a10, a11] H') :
    tL1 K D [v0, some (.ref p), v2, a3, a4, a5, a6, a7, a8, a9, a10, a11] H := by
  refine ⟨_, rfl, p, a, cs, b, g, rfl, N, hb, fun t ga la gs ls b' g' H' ok hb' N' s ht rg rl => ?_⟩
  exact ⟨t, _, rfl, SqT.of ht, rfl, _, _, rfl, _, _, rfl, rfl, k ga la gs ls b' g' H' ok hb' N' (tabs_up hT N s) rg rl⟩
theorem lw2 (G : GL gs ls) (rg : RowP H ga gs) (rl : RowP H la ls) (k : ∀ m H', Same H H' → IsNote K H' m gs ls → D.nx [v0, some (.ref p), v2, some (.ref ga), some (.ref la), some (.ref m), some (.str (noteText gs ls)), a7, a8, a9, a10, a11] H') :
    tL2 K D [v0, some (.ref p), v2, some (.ref ga), some (.ref la), a5, a6, a7, a8, a9, a10, a11] H := by
  show tNoteOf K 3 4 [v0, some (.ref p), v2, some (.ref ga), some (.ref la), a5, a6, a7, a8, a9, a10, a11] H (fun x H1 => tTxt 3 4 [v0, some (.ref p), v2, some (.ref ga), some (.ref la), a5, a6, a7, a8, a9, a10, a11] H1 fun y H2 => ∃ v w, [x, y] = [v, w] ∧ D.nx ((List.set [v0, some (.ref p), v2, some (.ref ga), some (.ref la), a5, a6, a7, a8, a9, a10, a11] 5 (some v)).set 6 (some w)) H2)
  refine noteOf_read rfl rfl rg rl G fun m H1 s1 nm => ⟨_, rfl, _, rfl, ga, la, gs, ls, rfl, s1 _ _ rg, s1 _ _ rl, G.few1, G.few2, fun H2 s2 => ⟨_, _, rfl, ?_⟩⟩
  exact k m H2 (s1.trans s2) (IsNote.same nm s2)
theorem lw3 (T : KF P w K mg base) (G : GL gs ls) (nm : IsNote K H m gs ls) (hT : Tabs (TL K) H) (k : ∀ H', ExtN H H' → Tabs (TL K) H' → D.nx [v0, some (.ref p), v2, a3, a4, some (.ref m), some (.str (noteText gs ls)), a7, a8, a9, a10, a11] H') :
    tL3 K D [v0, some (.ref p), v2, a3, a4, some (.ref m), some (.str (noteText gs ls)), a7, a8, a9, a10, a11] H := by
  obtain ⟨tok, t160⟩ := text_ok G
  obtain ⟨dx, fs, hm⟩ := note_at nm
  refine ⟨_, rfl, m, dx, _, rfl, hm, m, _, _, rfl, nm, fun H1 s1 => ⟨_, rfl, _, rfl, rfl, false, by rw [decide_eq_true rfl]; rfl, if_negB rfl ?_⟩⟩
  refine ⟨_, rfl, noteText gs ls, rfl, tok, hT.ext s1, fun H2 e2 T2 => ⟨true, rfl, if_negB rfl ?_⟩⟩
  have nm2 := IsNote.extN (IsNote.same nm s1) e2
  obtain ⟨dx2, fs2, hm2⟩ := note_at nm2
  refine ⟨rfl, _, rfl, rfl, .str (noteText gs ls), rfl, .inl ⟨noteText gs ls, rfl, by omega, fun g' l' e x H3 s3 nx => ?_, fun i e => nomatch (read_text G).symm.trans e⟩⟩
  obtain ⟨rfl, rfl⟩ := Prod.mk.inj (Sum.inl.inj ((read_text G).symm.trans e))
  refine ⟨_, rfl, nen_read T nx (IsNote.same nm2 s3) ⟨false, rfl, if_negB rfl ?_⟩⟩
  refine ⟨_, rfl, m, dx2, _, rfl, s3 _ _ hm2, m, _, _, rfl, IsNote.same nm2 s3, _, rfl, _, rfl, rfl, rfl, false, ?_, if_negB rfl (k H3 ((Same.extN s1).trans (e2.trans (Same.extN s3))) (T2.ext s3))⟩
  have e1 : (!(gs ++ ls).isEmpty) = !decide (V.str (noteText gs ls) = V.str "-") := by
    rw [strB, decide_eq_decide.mpr (text_dash G)]
    rw [emp_dec]
  rw [e1, decide_eq_true rfl]
  rfl
theorem fx_read (T : KF P w K mg base) {H : Hp} {Q : VK} {f : Str} {q : Addr} {xs : List Str} {dx : Addr} {fs : List (Str × V)} (h5 : σ[5]? = some (some (.ref m))) (hm : H m = some (.ins (gNo K) dx fs)) (hf : fs.lookup f = some (.ref q)) (nf : NoAttr K (gNo K) f) (L : IsLot K H q xs) (k : ∀ tp, H tp = some (.tup (xs.map V.str)) → Q (.ref tp) H) : tFx K f σ H Q := by
  obtain ⟨dl, tl, L⟩ := L
  exact ⟨_, h5, m, gNo K, dx, _, _, rfl, hm, cls_note T, nf, hf, q, gO K, dl, _, _, rfl, L.ob, T.clo, T.noF, rfl, k tl L.ps⟩
theorem lw4 (T : KF P w K mg base) (G : GL gs ls) (nm : IsNote K H m gs ls) (rg : RowP H ga gs) (rl : RowP H la ls) (k : ∀ H', Same H H' → D.nx [v0, some (.ref p), v2, some (.ref ga), some (.ref la), some (.ref m), a6, a7, a8, a9, a10, a11] H') :
    tL4 K D [v0, some (.ref p), v2, some (.ref ga), some (.ref la), some (.ref m), a6, a7, a8, a9, a10, a11] H := by
  have nm' := nm
  obtain ⟨dx, qg, ql, NX⟩ := nm'
  have fg : ∀ x ∈ gs, PyData.strOk x = true := fun x hx => fix_ok (G.fg x hx)
  have fl : ∀ x ∈ ls, PyData.strOk x = true := fun x hx => fix_ok (G.fl x hx)
  obtain ⟨dg, tg, LG⟩ := NX.g
  obtain ⟨dl, tl, LL⟩ := NX.l
  refine ⟨_, rfl, m, gNo K, dx, _, _, rfl, NX.ob, cls_note T, T.noGa, rfl, qg, gO K, dg, _, _, rfl, LG.ob, T.clo, T.noF, rfl, _, rfl, ga, _, rfl, .inl ⟨SqL.of rg, fun l nl => ?_⟩⟩
  have s1 := same_new (o := .tup (gs.map V.str)) nl
  refine neT (SqT.of (s1 _ _ LG.ps)) (SqT.of upd_same) fg fg ⟨false, by rw [decide_eq_true rfl]; rfl, if_negB rfl ?_⟩
  refine ⟨_, rfl, m, gNo K, dx, _, _, rfl, s1 _ _ NX.ob, cls_note T, T.noLs, rfl, ql, gO K, dl, _, _, rfl, s1 _ _ LL.ob, T.clo, T.noF, rfl, _, rfl, la, _, rfl, .inl ⟨SqL.of (s1 _ _ rl), fun l2 nl2 => ?_⟩⟩
  have s2 := same_new (o := .tup (ls.map V.str)) nl2
  refine neT (SqT.of (s2 _ _ (s1 _ _ LL.ps))) (SqT.of upd_same) fl fl ⟨false, by rw [decide_eq_true rfl]; rfl, if_negB rfl ?_⟩
  have s12 := s1.trans s2
  refine ⟨_, rfl, neg_read (IsNote.same nm s12) (gl_swap_apart G) fun y H3 s3 ny => ?_⟩
  obtain ⟨dy, fy, hy⟩ := note_at ny
  refine ⟨y, dy, _, rfl, hy, y, _, _, rfl, ny, fun H4 s4 => ⟨_, rfl, ?_⟩⟩
  have s14 := s12.trans (s3.trans s4)
  refine ⟨_, rfl, _, rfl, la, ga, ls, gs, rfl, s14 _ _ rl, s14 _ _ rg, G.few2, G.few1, fun H5 s5 => ⟨rfl, false, by rw [decide_eq_true rfl]; rfl, if_negB rfl (k H5 (s14.trans s5))⟩⟩
theorem lw5 (N : Pen H p a cs b g) (hb : b ≤ 900) (hT : Tabs (TL K) H) (k : ∀ t ga la gs ls b' g' H', TwoOk gs ls → b' ≤ b + 7 → Pen H' p a cs b' g' → Tabs (TL K) H' → Same2 H H' p → H' t = some (.tup [.ref ga, .ref la]) → RowP H' ga gs → RowP H' la ls → D.nx [v0, some (.ref p), v2, a3, a4, a5, a6, some (.ref t), a8, a9, a10, a11] H') :
    tL5 K D [v0, some (.ref p), v2, a3, a4, a5, a6, a7, a8, a9, a10, a11] H := by
  refine ⟨_, rfl, p, a, cs, b, g, rfl, N, hb, fun t ga la gs ls b' g' H' ok hb' N' s ht rg rl => ?_⟩
  exact k t ga la gs ls b' g' H' ok hb' N' (tabs_up hT N s) s ht rg rl
theorem eqv_two (a b c d : List Str) : PyData.eqv (.tuple [.list (a.map .str), .list (b.map .str)]) (.tuple [.list (c.map .str), .list (d.map .str)]) = (decide (a = c) && decide (b = d)) := by
  simp [PyData.eqv, PyData.eqvAll, eqvAll_s]
theorem shaped_two {a b : List Str} (ha : ∀ x ∈ a, PyData.strOk x = true) (hb : ∀ x ∈ b, PyData.strOk x = true) : SeqAt.shaped (.tuple [.list (a.map .str), .list (b.map .str)]) = true := by
  simp [SeqAt.shaped, PyData.canLay0, PyData.canLayAll0, PyData.depth, PyData.depthAll, canLay_s a ha, canLay_s b hb, depth_s]
theorem oth_read {t ga la : Addr} {gs ls : List Str} (h7 : σ[7]? = some (some (.ref t))) (ht : H t = some (.tup [.ref ga, .ref la])) (rg : RowP H ga gs) (rl : RowP H la ls) (G : GL gs ls) (k : ∀ d H', Same H H' → IsNote K H' d gs ls → Q (.ref d) H') :
    tMake (gNo K) (spNoI K) [] E0 (tCons (tOth K 0) (tCons (tOth K 1) tNil)) σ H Q := by
  refine ⟨_, h7, t, _, 0, .ref ga, rfl, rfl, SqT.of ht, atI_nat (j := 0) rfl, .ref ga, gs, rfl, .inl ⟨ga, rfl, rg⟩, G.lg, G.fg, fun H1 q dq tq s1 O => ?_⟩
  rw [lined_asc G.ag] at O
  refine ⟨_, h7, t, _, 1, .ref la, rfl, rfl, SqT.of (s1 _ _ ht), atI_nat (j := 1) rfl, .ref la, ls, rfl, .inl ⟨la, rfl, s1 _ _ rl⟩, G.ll, G.fl, fun H2 q2 dq2 tq2 s2 O2 => ?_⟩
  rw [lined_asc G.al] at O2
  exact note_new (Q := Q) ⟨dq, tq, O.same s2⟩ ⟨dq2, tq2, O2⟩ G.ap fun z H3 s3 n => k z H3 (s1.trans (s2.trans s3)) n
theorem first_str (T : KF P w K mg base) : PySem.W.notFirst K (gNo K) (.type "str") = true := by
  obtain ⟨_, z2, _, _⟩ := noteF T
  unfold PySem.W.notFirst
  rw [z2 "str" (by decide)]
  simp
theorem lw6 (T : KF P w K mg base) {t ga2 la2 : Addr} {g2 l2 : List Str} {z : Str} (G : GL gs ls) (G2 : GL g2 l2) (nm : IsNote K H m gs ls) (rg : RowP H ga gs) (rl : RowP H la ls) (ht : H t = some (.tup [.ref ga2, .ref la2])) (rg2 : RowP H ga2 g2) (rl2 : RowP H la2 l2)
    (k : ∀ H', Same H H' → D.nx [v0, some (.ref p), v2, some (.ref ga), some (.ref la), some (.ref m), some (.str z), some (.ref t), a8, a9, a10, a11] H') :
    tL6 K D [v0, some (.ref p), v2, some (.ref ga), some (.ref la), some (.ref m), some (.str z), some (.ref t), a8, a9, a10, a11] H := by
  have ok : ∀ {xs : List Str}, (∀ x ∈ xs, isFixB x = true) → ∀ x ∈ xs, PyData.strOk x = true := fun h x hx => fix_ok (h x hx)
  refine ⟨_, rfl, ?_⟩
  refine oth_read (σ := [v0, some (.ref p), v2, some (.ref ga), some (.ref la), some (.ref m), some (.str z), some (.ref t), a8, a9, a10, a11]) rfl ht rg2 rl2 G2 fun d H1 s1 nd => eqn_read T (IsNote.same nm s1) nd ?_
  refine ⟨_, rfl, _, rfl, _, rfl, by show 2 ≤ sizeLine; decide, fun q nq => ?_⟩
  have s2 := same_new (o := .tup [V.ref ga, V.ref la]) nq
  have s12 := s1.trans s2
  refine ⟨.tuple [.list (g2.map .str), .list (l2.map .str)], .tuple [.list (gs.map .str), .list (ls.map .str)], .tup (SqT.of (s12 _ _ ht)) (.cons (.lst (SqL.of (s12 _ _ rg2)) (dp_s g2)) (.cons (.lst (SqL.of (s12 _ _ rl2)) (dp_s l2)) .nil)),
    .tup (SqT.of upd_same) (.cons (.lst (SqL.of (s12 _ _ rg)) (dp_s gs)) (.cons (.lst (SqL.of (s12 _ _ rl)) (dp_s ls)) .nil)), shaped_two (ok G2.fg) (ok G2.fl), shaped_two (ok G.fg) (ok G.fl), rfl, false, ?_, if_negB rfl ?_⟩
  · rw [eqv_two]
    have e1 : decide (g2 = gs) = decide (gs = g2) := decide_eq_decide.mpr ⟨Eq.symm, Eq.symm⟩
    have e2 : decide (l2 = ls) = decide (ls = l2) := decide_eq_decide.mpr ⟨Eq.symm, Eq.symm⟩
    rw [e1, e2, decide_eq_true rfl]
    rfl
  · refine ⟨_, rfl, neg_read (IsNote.same nm s12) (gl_swap_apart G) fun y H3 s3 ny => neg_read ny G.ap fun x H4 s4 nx => ?_⟩
    have s14 := s12.trans (s3.trans s4)
    refine ⟨_, rfl, nen_read T nx (IsNote.same nm s14) ⟨false, rfl, if_negB rfl ?_⟩⟩
    have nm4 := IsNote.same nm s14
    obtain ⟨dx, fs, hm⟩ := note_at nm4
    exact ⟨_, rfl, _, rfl, m, dx, _, .type "str", rfl, hm, .base (.str _), first_str T, m, gs, ls, .str z, rfl, nm4, .inr ⟨.type "str", .base (.str _), (kits T).bn _ (by decide), false, rfl, if_negB rfl (k H4 s14)⟩⟩
theorem relf_read (T : KF P w K mg base) {i j : Int} (h1 : 1 ≤ i) (h2 : i ≤ 6) (h3 : 0 ≤ j) (h4 : j ≤ 59) {f : Str} {q : Addr} {xs : List Str} {dx : Addr} {fs : List (Str × V)} (h5 : σ[5]? = some (some (.ref m))) (hm : H m = some (.ins (gNo K) dx fs)) (hf : fs.lookup f = some (.ref q)) (nf : NoAttr K (gNo K) f) (L : IsLot K H q xs)
    (k : ∀ r H', Same H H' → IsRel K H' r xs → Q (.ref r) H') : tRv K (tNu K i j) (tFld K (tVar 5) f) σ H Q := by
  refine num_new (Q := fun n H1 => tFld K (tVar 5) f σ H1 fun u H2 => ∀ x dx, H2 x = none → H2 dx = none → dx ≠ x → spReIv K (.ref x :: ([n, u] ++ [])) (upd (upd H2 dx (.own x)) x (.ins (gRe K) dx [])) (fun z H3 => z = .non ∧ Q (.ref x) H3) E0) h1 h2 h3 h4 fun n dn fn H1 s1 hn => ?_
  refine ⟨_, h5, m, gNo K, dx, _, _, rfl, s1 _ _ hm, cls_note T, nf, hf, ?_⟩
  have L1 := L.same s1
  have L1' := L1
  obtain ⟨dl, tl, LL⟩ := L1'
  exact rel_new (.num hn) (.lot LL.ob) fun r dr H2 s2 hr => k r H2 (s1.trans s2) ⟨dr, n, q, hr, ⟨dn, fn, s2 _ _ hn⟩, L1.same s2⟩
theorem lw7 (T : KF P w K mg base) (G : GL gs ls) (nm : IsNote K H m gs ls) (k : ∀ H', Same H H' → D.nx [v0, some (.ref p), v2, a3, a4, some (.ref m), a6, a7, a8, a9, a10, a11] H') :
    tL7 K D [v0, some (.ref p), v2, a3, a4, some (.ref m), a6, a7, a8, a9, a10, a11] H := by
  have nm' := nm
  obtain ⟨dx, qg, ql, NX⟩ := nm'
  show tRv K (tNu K 2 1) (tFld K (tVar 5) "lost") [v0, some (.ref p), v2, a3, a4, some (.ref m), a6, a7, a8, a9, a10, a11] H (fun r1 H1 => tRv K (tNu K 1 0) (tFld K (tVar 5) "gained") [v0, some (.ref p), v2, a3, a4, some (.ref m), a6, a7, a8, a9, a10, a11] H1 fun r2 H2 => spNof K ([r1, r2] ++ []) H2 (fun x H3 => tVar 5 [v0, some (.ref p), v2, a3, a4, some (.ref m), a6, a7, a8, a9, a10, a11] H3 fun y H4 => Oo.rNeO K (gNo K) (spEqN K) E0 x y H4 fun z H5 => ∃ kk, z = .bl kk ∧ if kk = true then tNoS D [v0, some (.ref p), v2, a3, a4, some (.ref m), a6, a7, a8, a9, a10, a11] H5 else tNext D [v0, some (.ref p), v2, a3, a4, some (.ref m), a6, a7, a8, a9, a10, a11] H5) E0)
  refine relf_read T (by decide) (by decide) (by decide) (by decide) rfl NX.ob rfl T.noLs NX.l fun r1 H1 s1 rel1 => ?_
  have N1 := NX.same s1
  refine relf_read T (by decide) (by decide) (by decide) (by decide) rfl N1.ob rfl T.noGa N1.g fun r2 H2 s2 rel2 => ?_
  refine ⟨r1, r2, ls, gs, rfl, IsRel.same rel1 s2, rel2, fun x H3 s3 nx => ?_⟩
  rw [sift_ap G.ap, sift_ap (gl_swap_apart G)] at nx
  have s := s1.trans (s2.trans s3)
  exact ⟨_, rfl, nen_read T nx (IsNote.same nm s) ⟨false, rfl, if_negB rfl (k H3 s)⟩⟩
theorem lw8b {z : Str} (N : Pen H p a cs b g) (hb : b ≤ 900) (hT : Tabs (TL K) H) (tok : TextOk z) (hz : z.length ≤ 160) (k : ∀ a9 b' g' H', b' ≤ b + 6 → Pen H' p a cs b' g' → Tabs (TL K) H' → D.nx [v0, some (.ref p), v2, a3, a4, a5, some (.str z), a7, a8, a9, a10, a11] H') :
    tL8b K D [v0, some (.ref p), v2, a3, a4, a5, some (.str z), a7, a8, a9, a10, a11] H := by
  refine ⟨_, rfl, _, rfl, p, a, cs, b, g, z, rfl, N, by omega, tok, by omega, fun z1 b1 g1 H1 ok1 len1 hb1 N1 s1 => ?_⟩
  have T1 := tabs_up hT N s1
  have t1 : TextOk z1 := ⟨by omega, ok1⟩
  refine ⟨_, rfl, z1, rfl, t1, T1, fun H2 e2 T2 => ⟨true, rfl, if_negB rfl ?_⟩⟩
  have N2 := N1.extN e2
  refine ⟨_, rfl, _, rfl, p, a, cs, b1, g1, z1, rfl, N2, by omega, t1, by omega, fun z2 b2 g2 H3 ok2 len2 hb2 N3 s3 => ?_⟩
  exact ⟨z2, rfl, ⟨by omega, ok2⟩, tabs_up T2 N2 s3, fun H4 e4 T4 => ⟨true, rfl, if_negB rfl (k _ b2 g2 H4 (by omega) (N3.extN e4) T4)⟩⟩
theorem lw8 {z : Str} (N : Pen H p a cs b g) (hb : b ≤ 870) (hT : Tabs (TL K) H) (tok : TextOk z) (hz : z.length ≤ 160) (k : ∀ a8 a9 b' g' H', b' ≤ b + 24 → Pen H' p a cs b' g' → Tabs (TL K) H' → D.nx [v0, some (.ref p), v2, a3, a4, a5, some (.str z), a7, a8, a9, a10, a11] H') :
    tL8 K D [v0, some (.ref p), v2, a3, a4, a5, some (.str z), a7, a8, a9, a10, a11] H := by
  refine ⟨4, rfl, by decide, by decide, ?_⟩
  refine for_range (lo := 0) (n := 4) (g := gName 8) (tb := tL8b K) (D := D) (fun i σ' H' => ∃ (a8 a9 : Option V) (b' g' : Int), σ' = [v0, some (.ref p), v2, a3, a4, a5, some (.str z), a7, a8, a9, a10, a11] ∧ b' ≤ b + 6 * (i : Int) ∧ Pen H' p a cs b' g' ∧ Tabs (TL K) H') ⟨a8, a9, b, g, rfl, by omega, N, hT⟩ ?_ ?_
  · rintro i σ' H' hi ⟨a8, a9, b', g', rfl, hb', N', T'⟩
    refine lw8b N' (by omega) T' tok hz fun a9 b1 g1 H1 hb1 N1 T1 => ?_
    exact ⟨_, a9, b1, g1, rfl, by omega, N1, T1⟩
  · rintro σ' H' ⟨a8, a9, b', g', rfl, hb', N', T'⟩
    exact k a8 a9 b' g' H' (by omega) N' T'
theorem lw9 (N : Pen H p a cs b g) (hb : b ≤ 900) (hT : Tabs (TL K) H) (k : ∀ b' g' H', b' ≤ b + 2 → Pen H' p a cs b' g' → Tabs (TL K) H' → D.nx [v0, some (.ref p), v2, a3, a4, a5, a6, a7, a8, a9, a10, a11] H') :
    tL9 K D [v0, some (.ref p), v2, a3, a4, a5, a6, a7, a8, a9, a10, a11] H :=
  ⟨_, rfl, p, a, cs, b, g, rfl, N, by omega, hT, fun b' g' H' hb' N' T' => ⟨true, rfl, if_negB rfl (k b' g' H' hb' N' T')⟩⟩
theorem lw_turn (T : KF P w K mg base) (N : Pen H p a cs b g) (hb : b ≤ 800) (hT : Tabs (TL K) H) (k : ∀ a3 a4 a5 a6 a7 a8 a9 b' g' H', b' ≤ b + 40 → Pen H' p a cs b' g' → Tabs (TL K) H' → D.nx [v0, some (.ref p), v2, a3, a4, a5, a6, a7, a8, a9, a10, a11] H') :
    tLb K D [v0, some (.ref p), v2, a3, a4, a5, a6, a7, a8, a9, a10, a11] H := by
  refine lw1 N (by omega) hT fun ga la gs ls b1 g1 H1 ok hb1 N1 T1 rg rl => ?_
  have G := ok.gl
  obtain ⟨tok, t160⟩ := text_ok G
  refine lw2 G rg rl fun m H2 s2 nm => ?_
  refine lw3 T G nm (T1.ext s2) fun H3 e3 T3 => ?_
  have e13 := (Same.extN s2).trans e3
  have rg3 := rows_extN rg e13
  have rl3 := rows_extN rl e13
  have nm3 := IsNote.extN nm e3
  refine lw4 T G nm3 rg3 rl3 fun H4 s4 => ?_
  have N4 := Pen.same (N1.extN e13) s4
  refine lw5 N4 (by omega) (T3.ext s4) fun t ga2 la2 g2 l2 b5 g5 H5 ok2 hb5 N5 T5 s5 ht rg2 rl2 => ?_
  have rg4 : RowP H4 ga gs := s4 _ _ rg3
  have rl4 : RowP H4 la ls := s4 _ _ rl3
  have rg5 : RowP H5 ga gs := s5 _ _ (row_ne N4 rg4) rg4
  have rl5 : RowP H5 la ls := s5 _ _ (row_ne N4 rl4) rl4
  have nm5 := note_same2 N4 (IsNote.same nm3 s4) s5
  refine lw6 T G ok2.gl nm5 rg5 rl5 ht rg2 rl2 fun H6 s6 => ?_
  refine lw7 T G (IsNote.same nm5 s6) fun H7 s7 => ?_
  have s67 := s6.trans s7
  refine lw8 (Pen.same N5 s67) (by omega) (T5.ext s67) tok t160 fun a8 a9 b8 g8 H8 hb8 N8 T8 => ?_
  exact lw9 N8 (by omega) T8 fun b9 g9 H9 hb9 N9 T9 => k _ _ _ _ _ _ _ b9 g9 H9 (by omega) N9 T9
end
end K7
set_option Elab.async false
set_option linter.all false
set_option maxRecDepth 100000
set_option maxHeartbeats 1000000
/-! law: whole. -/
namespace K7
open PySem PySem.Spec PyProof.Rows L2 RV EV He EF EI Hd LamX Kw
abbrev sLw : Stmt := top 52
abbrev scLw_N : List Str := ["_law_script", "_law_pen_here", "_law_turn", "_law_gained", "_law_lost", "_law_made", "_law_text_here", "_law_other", "_law_lap", "_law_bent_here", "_law_eight", "_law_sign"]
theorem scLw : FnScope scLw_N ["_law_script"] (defScope sLw) := ⟨rfl, rfl, rfl, by decide +kernel, rfl, by decide +kernel, by decide +kernel⟩
def tE0 (K : PySem.W.Frag) : TS := tAsg (tCall (spPen K) [] E0 (tCons (tVar 0) tNil)) (gName 1)
def tLp (K : PySem.W.Frag) : TS := tFor (iRng1 (tCons (tC (V.int 9)) tNil)) (gName 2) (tLb K)
def tE1 (K : PySem.W.Frag) : TS := tAsg (tSpJ K (tLc (iStr (tC (V.str "abcdefgh"))) (gName 11) tYes (tOp rCatS (tC (V.str "+")) (tVar 11)) [11])) (gName 10)
abbrev tEl : TE := tLst (tCons (tC (V.str "")) (tCons (tC (V.str "- -")) (tCons (tC (V.str "-")) (tCons (tC (V.str "+")) (tCons (tC (V.str "-a +b")) (tCons (tC (V.str "+b +a")) (tCons (tC (V.str "+a -a")) (tCons (tVar 10) (tCons (tOp rCatS (tVar 10) (tC (V.str " +i"))) (tCons (tC (V.str "+a ")) (tCons (tC (V.str " +a")) tNil)))))))))))
def tE2 (K : PySem.W.Frag) : TS := tRet (tOp (rEqD K) (tLc (iList K tEl) (gName 6) (tRR K (tVar 6)) (tVar 6) [6]) (tLst tNil))
def tLw (K : PySem.W.Frag) : TS := tSeq (tE0 K) (tSeq (tLp K) (tSeq (tE1 K) (tE2 K)))
def spLw (K : PySem.W.Frag) : Sp := fun vs H Q _ => ∃ (a : Addr) (ns : List Int), vs = [.ref a] ∧ SqL K H a (ns.map V.int) ∧ ns.length ≤ 63 ∧ Tabs (TL K) H ∧ ∀ H', Q (.bl true) H'
section
variable {P : Program} {w : World} {mg : Str → Option Value} {base : Heap} {K : PySem.W.Frag} {H : Hp} {D : Ends} {Q : VK} {σ : L2.St} {p a m ga la : Addr} {cs : List Int} {b g : Int}
  {v0 v1 v2 a3 a4 a5 a6 a7 a8 a9 a10 a11 : Option V}
theorem lw_loop (T : KF P w K mg base) (N : Pen H p a cs 0 0) (hT : Tabs (TL K) H) (k : ∀ a2 a3 a4 a5 a6 a7 a8 a9 H', Tabs (TL K) H' → D.nx [v0, some (.ref p), a2, a3, a4, a5, a6, a7, a8, a9, a10, a11] H') :
    tLp K D [v0, some (.ref p), none, none, none, none, none, none, none, none, a10, a11] H := by
  refine ⟨9, rfl, by decide, by decide, ?_⟩
  refine for_range (lo := 0) (n := 9) (g := gName 2) (tb := tLb K) (D := D) (fun i σ' H' => ∃ (a2 a3 a4 a5 a6 a7 a8 a9 : Option V) (b' g' : Int), σ' = [v0, some (.ref p), a2, a3, a4, a5, a6, a7, a8, a9, a10, a11] ∧ b' ≤ 40 * (i : Int) ∧ Pen H' p a cs b' g' ∧ Tabs (TL K) H') ⟨none, none, none, none, none, none, none, none, 0, 0, rfl, by omega, N, hT⟩ ?_ ?_
  · rintro i σ' H' hi ⟨a2, a3, a4, a5, a6, a7, a8, a9, b', g', rfl, hb', N', T'⟩
    refine lw_turn T N' (by omega) T' fun a3 a4 a5 a6 a7 a8 a9 b1 g1 H1 hb1 N1 T1 => ?_
    exact ⟨_, a3, a4, a5, a6, a7, a8, a9, b1, g1, rfl, by omega, N1, T1⟩
  · rintro σ' H' ⟨a2, a3, a4, a5, a6, a7, a8, a9, b', g', rfl, hb', N', T'⟩
    exact k a2 a3 a4 a5 a6 a7 a8 a9 H' T'
theorem eight_read (k : ∀ H', Same H H' → D.nx [v0, v1, v2, a3, a4, a5, a6, a7, a8, a9, some (.str "+a +b +c +d +e +f +g +h"), a11] H') : tE1 K D [v0, v1, v2, a3, a4, a5, a6, a7, a8, a9, a10, a11] H := by
  refine ⟨⟨_, rfl⟩, "abcdefgh", rfl, fun D0 nD => ?_⟩
  have el : eightL.length = 8 := by decide +kernel
  have w9 : Walk (Its "abcdefgh") eightL.length (fun _ => True) (fun i H v H' => H' = H ∧ ∃ c, (("abcdefgh" : Str).cps)[i]? = some c ∧ v = .str ⟨#[c]⟩) := by
    have e9 : ("abcdefgh" : Str).cps.size = 8 := by decide +kernel
    have w := walk_str (z := "abcdefgh")
    rw [e9] at w
    rw [el]
    exact w
  refine lc_gen (σ := [v0, v1, v2, a3, a4, a5, a6, a7, a8, a9, a10, a11]) (enc := V.str) (out := fun x => V.str (plus "+" x)) (p := fun _ => true) (ns := eightL) (i := 11) (tt := tYes) (te := tOp rCatS (tC (V.str "+")) (tVar 11)) nD w9 (by rw [el]; decide) ?_ (fun _ _ => trivial) (fun _ => rfl) (fun z _ H' F s e => tests_yes (z := z) e) (fun z hm _ H' F s e => ?_) fun H3 s3 hD => ?_
  · rintro n x H4 H5 ⟨rfl, c, hc, rfl⟩
    refine ⟨rfl, one c, ?_, rfl⟩
    unfold eightL
    rw [List.getElem?_map, Array.getElem?_toList, hc]
    rfl
  · have := fix_len (eight_fix z hm)
    have e1 : ("+" : Str).length = 1 := rfl
    refine ⟨_, rfl, "+", z, rfl, rfl, by rw [sizeLine_eq, e1]; omega, ?_⟩
    rw [← plus_eq]
    exact e H' fun _ _ e => e
  · rw [all_yes] at hD
    have hD2 : H3 D0 = some (.lst ((eightL.map (plus "+")).map V.str)) := by
      rw [hD, List.map_map]
      rfl
    refine ⟨" ", D0, eightL.map (plus "+"), rfl, rfl, .inl (SqL.of hD2), by decide +kernel, ?_⟩
    rw [eight_text]
    exact k H3 s3
theorem end_read (hT : Tabs (TL K) H) (k : ∀ H', D.rt (.bl true) H') : tE2 K D [v0, v1, v2, a3, a4, a5, a6, a7, a8, a9, some (.str "+a +b +c +d +e +f +g +h"), a11] H := by
  refine ⟨_, rfl, _, rfl, _, _, rfl, rfl, by rw [sizeLine_eq]; decide, ?_⟩
  rw [eight_i]
  refine ⟨by show 11 ≤ sizeLine; decide, fun A nA => ?_⟩
  have sA := same_new (o := .lst (endL.map V.str)) nA
  have hA : (upd H A (.lst (endL.map V.str))) A = some (.lst (endL.map V.str)) := upd_same
  refine ⟨A, rfl, ⟨_, SqL.of hA⟩, fun D0 nD => ?_⟩
  have sD := same_new (o := .lst []) nD
  refine lc_it (σ := [v0, v1, v2, a3, a4, a5, a6, a7, a8, a9, some (.str "+a +b +c +d +e +f +g +h"), a11]) (vs := [6]) (walk_list (K := K) (a := A) (xs := endL.map V.str))
    (fun n H' => Tabs (TL K) H' ∧ H' A = some (.lst (endL.map V.str)) ∧ H' D0 = some (.lst [])) ⟨hT.ext (sA.trans sD), sD _ _ hA, upd_same⟩ (fun n H' _ q => SqL.of q.2.1) ?_ ?_
  · rintro n x H4 H5 hn ⟨T4, hA4, hD4⟩ ⟨rfl, hx⟩
    have hx : (endL.map V.str)[n]? = some x := hx
    obtain ⟨z, hz, rfl⟩ := List.mem_map.mp (List.mem_of_getElem? hx)
    exact ⟨rfl, _, rfl, z, rfl, end_ok z hz, T4, fun H6 e6 T6 => ⟨true, rfl, if_negB rfl ⟨T6, e6 _ _ hA4 (fun _ z => nomatch z), e6 _ _ hD4 (fun _ z => nomatch z)⟩⟩⟩
  · rintro H4 ⟨T4, hA4, hD4⟩
    refine ⟨Nat.zero_le _, fun q nq => eqL (xs := []) (ys := []) (SqL.of (same_new nq _ _ hD4)) (SqL.of upd_same) (fun _ h => nomatch h) (fun _ h => nomatch h) ?_⟩
    rw [decide_eq_true rfl]
    exact k _
theorem read_law (T : KF P w K mg base) {E : XK} {vs : List V} (h : spLw K vs H Q E) : tLw K { nx := fun _ H' => Q .non H', rt := Q } (L2.start scLw_N vs) H := by
  obtain ⟨a, ns, rfl, hS, hl, hT, k⟩ := h
  have e : L2.start scLw_N [.ref a] = [some (.ref a), none, none, none, none, none, none, none, none, none, none, none] := rfl
  rw [e]
  refine ⟨_, rfl, a, ns, rfl, hS, hl, fun p ce cs H1 N s1 => ?_⟩
  refine lw_loop T N (hT.ext s1) fun a2 a3 a4 a5 a6 a7 a8 a9 H2 T2 => ?_
  refine eight_read fun H3 s3 => ?_
  exact end_read (T2.ext s3) fun H4 => k H4
theorem lm_note (T : KF P w K mg base) : PySem.W.findIn K (.ref (gNo K)) "__ne__" = some (some (.builtin "object.__ne__")) ∧ PySem.W.mroIn K (gNo K) (.type "object") = some true := by
  obtain ⟨z1, _, _, z4⟩ := noteF T
  obtain ⟨_, h⟩ := ba z1
  obtain ⟨h2, _⟩ := ba h
  exact ⟨z4, of_decide_eq_true h2⟩
theorem code_law (T : KF P w K mg base) (TR : TabB base mg (cc K qRr).1 (cc K qRr).2) (TF : TabB base mg (cc K qRf).1 (cc K qRf).2) {f : Addr} {A : Around} {outer : List Env} {s : Shared} {H : Hp} {E : XK} {cdv : Value} (hr : Room 14 (A.deeper (envOfC "law" (defScope sLw) s.heap.objs.size f cdv))) :
    ∃ t, PSs (cxOf CX0 P w K mg base scLw_N "law" (defScope sLw) f cdv A outer s H E) (defBody sLw) t ∧ t = tLw K := by
  obtain ⟨fP, GP, bP, kP, gP⟩ := c_pen (w := w) T
  obtain ⟨fW, GW, bW, kW, gW⟩ := c_two (w := w) T
  obtain ⟨fX, GX, bX, kX, gX⟩ := c_txt (w := w) T
  obtain ⟨fR, GR, bR, kR, gR⟩ := ok_rr (w := w) T TR
  obtain ⟨fF, GF, bF, kF, gF⟩ := ok_rf (w := w) T TF
  obtain ⟨fB, GB, bB, kB, gB⟩ := c_be (w := w) T
  obtain ⟨fL, GL, bL, kL, gL⟩ := c_llot (w := w) T
  obtain ⟨fO, GO, bO, kO, gO'⟩ := c_nof (w := w) T
  obtain ⟨fn, Gn, bn, mn, gn⟩ := mk_note (w := w) T
  obtain ⟨fu, Gu, bu, mu, gu⟩ := mk_num (w := w) T
  obtain ⟨fr, Gr, br, mr, gr⟩ := mk_relv (w := w) T
  obtain ⟨fm, Gm, bm, kbm⟩ := c_nr (w := w) T
  obtain ⟨_, ft, Ft⟩ := T.note ("__str__", 2) (by decide)
  have bt : L2.Binds K ft ["self"] [] := FunD.bindsN Ft fun _ _ _ _ _ _ us hl => match us, hl with | [_], _ => rfl
  have Gt := ok_noStr T Ft
  obtain ⟨_, fe, Fe⟩ := T.note ("__eq__", 3) (by decide)
  have be : L2.Binds K fe ["self", "other"] [] := FunD.bindsN Fe fun _ _ _ _ _ _ us hl => match us, hl with | [_, _], _ => rfl
  have Ge := ok_noEq T Fe
  obtain ⟨ln, lo⟩ := lm_note T
  obtain ⟨_, fb, Fb⟩ := T.note ("__bool__", 4) (by decide)
  have bb : L2.Binds K fb ["self"] [] := FunD.bindsN Fb fun _ _ _ _ _ _ us hl => match us, hl with | [_], _ => rfl
  have Gb := ok_noBo T Fb
  have hu := hr.units
  have nd := scLw.nd
  refine ⟨_, PSs.nox
    (pss_cons (ps_set (i := 1) nd rfl (.inl rfl) (pe_call (E := E0) GP (hr.mono (by decide)) (by rfl) gP kP bP .nil pass0 (pa_cons (pv 0) pa_nil)))
    (pss_cons (ps_for PassesOwn.never rfl (pi_range1 (by rfl) (T.fr "range" (by decide)) (pa_cons pe_int pa_nil)) (pg_name (i := 2) nd rfl (.inl rfl))
      (pss_cons (ps_asg (pe_call (E := E0) GW (hr.mono (by decide)) (by rfl) gW kW bW .nil pass0 (pa_cons (pv 1) pa_nil)) (pg_tup (by rfl) (pgs_cons (pg_name (i := 3) nd rfl (.inl rfl)) (pgs_cons (pg_name (i := 4) nd rfl (.inl rfl)) pgs_nil))))
      (pss_cons (ps_par (i := 5) (j := 6) rfl nd rfl rfl (by decide) rfl rfl (pa_cons (pe_make (E := E0) mn Gn (hr.mono (by decide)) (by rfl) gn bn .nil passL (pa_cons (pe_call (E := E0) GL (hr.mono (by decide)) (by rfl) gL kL bL .nil pass0 (pa_cons (pv 3) pa_nil)) (pa_cons (pe_call (E := E0) GL (hr.mono (by decide)) (by rfl) gL kL bL .nil pass0 (pa_cons (pv 4) pa_nil)) pa_nil)))
          (pa_cons (pe_call (E := E0) GX (hr.mono (by decide)) (by rfl) gX kX bX .nil pass0 (pa_cons (pv 3) (pa_cons (pv 4) pa_nil))) pa_nil)) (by rfl))
      (pss_cons (ps_if (PW.pt (pw_or (pt_cmpR op_ne (pe_callTy (Oo.call_strO (E := E0) (nm T ("__str__", 2) (by decide)) Gt (hr.mono (by decide)) bt pass0) (by rfl) (T.fr "str" (by decide)) boot_T (pa_cons (pv 5) pa_nil)) (pv 6) (nomark _))
          (pw_or (pt_not (pt_val (pe_call (E := E0) GR (hr.mono (by decide)) (by rfl) gR kR bR .nil pass0 (pa_cons (pv 6) pa_nil))))
          (pw_or (pt_cmpR (Oo.op_neO (E := E0) (nm T ("__eq__", 3) (by decide)) ln lo Ge be (hr.mono (by decide)) pass0) (Kw.pe_smethKw (E := E0) (ks := ["text"]) (perm := [0]) (pe_glob (v := .ref (gNo K)) (by rfl) gn rfl) (creadN T) (smetN T) Gm (hr.mono (by decide)) kbm passL (pk_cons (pv 6) pk_nil)) (pv 5) (nomark _))
          (pw_or1 (pt_cmpR op_ne (pe_callTy (Ow.call_boolO (E := E0) (nm T ("__bool__", 4) (by decide)).at_ (nm T ("__bool__", 4) (by decide)).fn Gb (hr.mono (by decide)) bb pass0) (by rfl) (T.fr "bool" (by decide)) boot_T (pa_cons (pv 5) pa_nil)) (pe_cmpR op_ne (pv 6) pe_str (nomark _)) (nomark _))))))) (pss_one (ps_ret pe_bl)) pss_nil)
      (pss_cons (ps_if (PW.pt (pw_or (pt_cmpR (op_neD hu) (pe_fld (pe_fld (pv 5) rfl) rfl) (pe_callTy call_tuple_of (by rfl) (T.fr "tuple" (by decide)) boot_T (pa_cons (pv 3) pa_nil)) (nomark _))
          (pw_or (pt_cmpR (op_neD hu) (pe_fld (pe_fld (pv 5) rfl) rfl) (pe_callTy call_tuple_of (by rfl) (T.fr "tuple" (by decide)) boot_T (pa_cons (pv 4) pa_nil)) (nomark _))
          (pw_or1 (pt_cmpR op_ne (pe_callTy (Oo.call_strO (E := E0) (nm T ("__str__", 2) (by decide)) Gt (hr.mono (by decide)) bt pass0) (by rfl) (T.fr "str" (by decide)) boot_T (pa_cons (pe_un (Oo.un_negO (E := E0) (nm T ("__neg__", 5) (by decide)) (r_neg T) (hr.mono (by decide)) passL) (pv 5)) pa_nil))
            (pe_call (E := E0) GX (hr.mono (by decide)) (by rfl) gX kX bX .nil pass0 (pa_cons (pv 4) (pa_cons (pv 3) pa_nil))) (nomark _)))))) (pss_one (ps_ret pe_bl)) pss_nil)
      (pss_cons (ps_set (i := 7) nd rfl (.inl rfl) (pe_call (E := E0) GW (hr.mono (by decide)) (by rfl) gW kW bW .nil pass0 (pa_cons (pv 1) pa_nil)))
      (pss_cons (ps_if (PW.pt (pw_or (pt_cmpR op_ne (pe_cmpR (Oo.op_cmpO (E := E0) (op := .Eq) (fun _ _ => rfl) (nm T ("__eq__", 3) (by decide)) (r_noEq T) (hr.mono (by decide)) pass0) (pv 5)
              (pe_make (E := E0) mn Gn (hr.mono (by decide)) (by rfl) gn bn .nil passL (pa_cons (pe_call (E := E0) GL (hr.mono (by decide)) (by rfl) gL kL bL .nil pass0 (pa_cons (pe_ix ix_tup (pv 7) pe_int (fun _ _ => rfl)) pa_nil)) (pa_cons (pe_call (E := E0) GL (hr.mono (by decide)) (by rfl) gL kL bL .nil pass0 (pa_cons (pe_ix ix_tup (pv 7) pe_int (fun _ _ => rfl)) pa_nil)) pa_nil))) (nomark _))
            (pe_cmpR (op_eqD hu) (pv 7) (pe_tup (pa_cons (pv 3) (pa_cons (pv 4) pa_nil))) (nomark _)) (nomark _))
          (pw_or (pt_cmpR (Oo.op_neO (E := E0) (nm T ("__eq__", 3) (by decide)) ln lo Ge be (hr.mono (by decide)) pass0) (pe_un (Oo.un_negO (E := E0) (nm T ("__neg__", 5) (by decide)) (r_neg T) (hr.mono (by decide)) passL) (pe_un (Oo.un_negO (E := E0) (nm T ("__neg__", 5) (by decide)) (r_neg T) (hr.mono (by decide)) passL) (pv 5))) (pv 5) (nomark _))
          (pw_or1 (pt_cmpR (Oo.op_cmpO (E := E0) (op := .Eq) (fun _ _ => rfl) (nm T ("__eq__", 3) (by decide)) (r_noEq T) (hr.mono (by decide)) pass0) (pv 5) (pv 6) (nomark _)))))) (pss_one (ps_ret pe_bl)) pss_nil)
      (pss_cons (ps_if (pt_cmpR (Oo.op_neO (E := E0) (nm T ("__eq__", 3) (by decide)) ln lo Ge be (hr.mono (by decide)) pass0) (pe_call (E := E0) GO (hr.mono (by decide)) (by rfl) gO' kO bO .nil passL
            (pa_cons (pe_make (E := E0) mr Gr (hr.mono (by decide)) (by rfl) gr br .nil passL (pa_cons (pe_make (E := E0) mu Gu (hr.mono (by decide)) (by rfl) gu bu .nil passL (pa_cons pe_int (pa_cons pe_int pa_nil))) (pa_cons (pe_fld (pv 5) rfl) pa_nil)))
            (pa_cons (pe_make (E := E0) mr Gr (hr.mono (by decide)) (by rfl) gr br .nil passL (pa_cons (pe_make (E := E0) mu Gu (hr.mono (by decide)) (by rfl) gu bu .nil passL (pa_cons pe_int (pa_cons pe_int pa_nil))) (pa_cons (pe_fld (pv 5) rfl) pa_nil))) pa_nil))) (pv 5) (nomark _)) (pss_one (ps_ret pe_bl)) pss_nil)
      (pss_cons (ps_for PassesOwn.never rfl (pi_range1 (by rfl) (T.fr "range" (by decide)) (pa_cons pe_int pa_nil)) (pg_name (i := 8) nd rfl (.inl rfl))
        (pss_cons (ps_set (i := 9) nd rfl (.inl rfl) (pe_call (E := E0) GB (hr.mono (by decide)) (by rfl) gB kB bB .nil pass0 (pa_cons (pv 1) (pa_cons (pv 6) pa_nil))))
        (pss_one (ps_if (PW.pt (pw_or (pt_not (pt_val (pe_call (E := E0) GR (hr.mono (by decide)) (by rfl) gR kR bR .nil pass0 (pa_cons (pv 9) pa_nil))))
          (pw_or1 (pt_not (pt_val (pe_call (E := E0) GR (hr.mono (by decide)) (by rfl) gR kR bR .nil pass0 (pa_cons (pe_call (E := E0) GB (hr.mono (by decide)) (by rfl) gB kB bB .nil pass0 (pa_cons (pv 1) (pa_cons (pv 9) pa_nil))) pa_nil))))))) (pss_one (ps_ret pe_bl)) pss_nil))))
      (pss_one (ps_if (pt_not (pt_val (pe_call (E := E0) GF (hr.mono (by decide)) (by rfl) gF kF bF .nil pass0 (pa_cons (pv 1) pa_nil)))) (pss_one (ps_ret pe_bl)) pss_nil)))))))))))
    (pss_cons (ps_set (i := 10) nd rfl (.inl rfl) (pe_join pe_str (pe_lc (own := [("_law_sign", 11)]) (g := gName 11) (tt := tYes) (te := tOp rCatS (tC (V.str "+")) (tVar 11)) rfl nd (pi_str pe_str) (blkOk_by (N := scLw_N) (sc := defScope sLw) (by decide +kernel)) (fun _ _ _ _ _ => pg_name (i := 11) nd rfl (.inl rfl)) (fun _ _ _ _ _ => pts_nil) (fun _ _ _ _ _ => pe_op op_add_str pe_str (pv 11)))))
    (pss_one (ps_ret (pe_cmpR (op_eqD hu) (pe_lc (own := [("_law_text_here", 6)]) (g := gName 6) (tt := tRR K (tVar 6)) (te := tVar 6) rfl nd
        (pi_list (pe_lst (pa_cons pe_str (pa_cons pe_str (pa_cons pe_str (pa_cons pe_str (pa_cons pe_str (pa_cons pe_str (pa_cons pe_str (pa_cons (pv 10) (pa_cons (pe_op op_add_str (pv 10) pe_str) (pa_cons pe_str (pa_cons pe_str pa_nil)))))))))))))
        (blkOk_by (N := scLw_N) (sc := defScope sLw) (by decide +kernel)) (fun _ _ _ _ _ => pg_name (i := 6) nd rfl (.inl rfl)) (fun _ _ _ _ _ => pts_one (pt_not (pt_val (pe_call (E := E0) GR (hr.mono (by decide)) (by rfl) gR kR bR .nil pass0 (pa_cons (pv 6) pa_nil))))) (fun _ _ _ _ _ => pv 6))
      (pe_lst pa_nil) (nomark _))))))), ?_⟩
  rfl
theorem ok_law (T : KF P w K mg base) (TR : TabB base mg (cc K qRr).1 (cc K qRr).2) (TF : TabB base mg (cc K qRf).1 (cc K qRf).2) {fd : FuncData} (F : FnP K "law" sLw (He.ga K "law") fd) : FnOk P w K mg base CX0 15 (He.ga K "law") fd ["_law_script"] (spLw K) := by
  refine F.ok scLw (fun vs H Q E h => ?_) (fun cdv A outer s H vs Q E hr h => ?_)
  · obtain ⟨a, ns, rfl, _⟩ := h
    rfl
  · obtain ⟨t, ht, rfl⟩ := code_law (E := E) T TR TF hr
    exact ⟨_, ht, read_law T (E := E) h⟩
end
end K7
set_option Elab.async false
set_option linter.all false
set_option maxRecDepth 100000
set_option maxHeartbeats 0
namespace K7
open PySem PySem.Spec PyProof.Rows L2 RV EV He EF EI Hd LamX Kw
/-- the tables of the defs that make lambdas -/
def csK (K : PySem.W.Frag) : List (Addr × Addr) := tabN.map fun p => He.cT K p
theorem lam_tab : ∀ q ∈ lamN, ((q.1, none) : Defn) ∈ tabN := by decide
theorem tabs_of {K : PySem.W.Frag} {H : Hp} (h : ∀ p ∈ csK K, H p.2 = some (.tbl #[])) : Tabs (TL K) H := by
  intro p hp
  obtain ⟨q, hq, rfl⟩ := List.mem_map.mp hp
  exact TabS.nil (h (cc K q) (List.mem_map_of_mem (f := fun p => He.cT K p) (lam_tab q hq)))
theorem cs_mem {K : PySem.W.Frag} {q : Str × Nat} (h : q ∈ lamN) : cc K q ∈ csK K := List.mem_map_of_mem (f := fun p => He.cT K p) (lam_tab q h)
end K7
open PySem PySem.W PySem.Calls PyProof.Rows
theorem PySem.Challenge.cw_editionlines_k61_notes_written_and_read_holds : PySem.Challenge.rw_editionlines_k61_notes_written_and_read.Holds := by
  w_on; o_law
  refine HandSHeadRun.head_any (r := OpenLaw.row PySem.Challenge.rw_editionlines_k61_notes_written_and_read) (q := view (OpenLaw.row PySem.Challenge.rw_editionlines_k61_notes_written_and_read).prog [52]) (H := K7.hkS) (ob := K7.obT) (M := 9500) (loose := K7.loose) (d := HandSHeadRun.topDef (OpenLaw.row PySem.Challenge.rw_editionlines_k61_notes_written_and_read).prog 52) (kwd := []) K7.obT_eq
    (by kernel_rfl) (fun s => by kernel_rfl) K7.runS (by kernel_rfl) (by kernel_rfl) (by kernel_rfl) (by rfl) (by first | assumption | decide +kernel) (by decide +kernel) ⟨rfl, rfl, rfl, rfl, rfl, by decide +kernel⟩ ?hw ?hc
  case hw => w_witness2
  case hc =>
    refine LamX.walk_ofTsE (l := PySem.Challenge.rw_editionlines_k61_notes_written_and_read) (n := 63) (k := 15) (CX := fun _ => L2.CX0) (x := "_law_script") rfl (by decide) (by kernel_rfl) ⟨rfl, by decide, by decide⟩ ?F (fun _ _ _ _ _ z => z)
    intro w mg fa h Y G hmg0
    obtain ⟨K, KX, c⟩ := Y
    have hmg : mg ("law" : PySem.Str) = some (.ref fa) := by
      have e : (HandSHeadRun.topDef (OpenLaw.row PySem.Challenge.rw_editionlines_k61_notes_written_and_read).prog 52).name = ("law" : PySem.Str) := by kernel_rfl
      rw [← e]
      exact hmg0
    obtain ⟨fd, F, g⟩ := (K7.kf (P := (PySem.Challenge.rw_editionlines_k61_notes_written_and_read).prog) KX G c h).tops ("law", 52) (by decide)
    cases hmg.symm.trans g
    have b := L2.FunD.bindsA (ps := ["_law_script"]) F fun _ _ _ _ _ _ us hl => match us, hl with | [_], _ => rfl
    have at_ : ∀ p ∈ K7.csK K, ∃ q ∈ K7.tabN, p = He.cT K q := fun p hp => by
      obtain ⟨q, hq, rfl⟩ := List.mem_map.mp hp
      exact ⟨q, hq, rfl⟩
    refine ⟨K, KX, fd, K7.csK K, K7.spLw K, fun p hp => ?_, fun p hp => ?_, fun p hp => ?_, fun s u => b s [u] rfl, fun H a ns hl _ hH hS => ⟨a, ns, rfl, hS, hl, K7.tabs_of hH, fun _ => rfl⟩, fun base KB GB hb => ?_⟩
    · obtain ⟨q, hq, rfl⟩ := at_ p hp
      exact c.x.empty q hq
    · obtain ⟨q, hq, rfl⟩ := at_ p hp
      exact c.x.out q hq
    · obtain ⟨q, hq, rfl⟩ := at_ p hp
      exact PySem.W.codeHd_of_K KX (c.x.hd q hq)
    · exact K7.ok_law (K7.kf KX G c base) (hb _ (K7.cs_mem (by decide))) (hb _ (K7.cs_mem (by decide))) F
