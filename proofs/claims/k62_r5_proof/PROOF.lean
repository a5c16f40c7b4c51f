import PyProof.Rows.All
import Wide.All
import OpenK.AllK
import Wide.FinOn
import KE.KStateDown
import HandS.ForMost
import HandS.Defaults
import HandS.Head0
import HandS.Head1
import HandS.Head2
import HandS.HeadEnd
import HandS.HeadHook1
import HandS.HeadHook2
import PySem.Challenge.RW_editionlines_k62_whole_notes_of_rows_of
import HandS.Exc
import HandS.ExcOwn
import HandS.ExcInit
import KE.KExcIs
import HandS.ExcValue
import HandS.ExcField
import HandS.IsInst
import HandS.ExcIs
import HandS.MakeKw
import HandS.MakeKwOnly
import HandS.Property
import HandS.Lambda
import HandS.EndTab
import HandS.HeadHook3
import HandS.HeadHook4
import HandS.HeadWalk
import HandS.HeadNt
import PyProof.ReprRoads
import HandS.TupMul
import HandS.Iter
import PyProof.Rows.FactsN_isinstance
import HandS.Walk
import HandS.Text
import PyProof.Rows.SeqGen
import HandS.More
import HandS.Star
import HandS.Flow
import HandS.CallLocal
import HandS.TupLe
import PyProof.Rows.StrRevDown
import PyProof.Rows.StrMeet
import KE.KCallOwn
import KE.KFmtOwn
import HandS.ClsMeth
import HandS.TupAny
import OpenK.KOps
import OpenK.KMeth
import PyProof.LookupFast
import PyProof.InstEq
import HandS.DictComp
import HandS.RaiseMore
import HandS.Sort
import HandS.WordsDict
import KE.KStar
import KE.KOwnIter
import PyProof.TupleIter
import PyProof.Rows.Range3
import HandS.Small
import HandS.IterNext
import HandS.List
import KE.KOpsOwn
import HandS.Nested
import PyProof.Rows.TupMore
import HandS.ForExc
import HandS.TryMany
import HandS.TryOnly
import PyProof.WalksMore
import PyProof.CollectIter
import HandS.FStr
import HandS.OwnEq
import PyProof.StrLawsRepr
import HandS.Words
import HandS.WordsExc
set_option Elab.async false
set_option linter.all false
set_option maxRecDepth 100000
set_option maxHeartbeats 0
namespace K6
open PySem PySem.Spec PyProof.Rows L2
abbrev prog : Program := PySem.Challenge.pw_editionlines_k62_whole_notes_of_rows_of
def top (i : Nat) : Stmt := prog.main.body.getD i (.Pass ⟨0, 0, 0, 0⟩)
end K6
set_option Elab.async false
set_option linter.all false
set_option maxRecDepth 100000
set_option maxHeartbeats 4000000
/-! An own exception class over ValueError, called with keywords: at the library's level. -/
namespace EKw
open PySem PySem.HandSPX Builtin Builtin.ObjectAttr
section
variable {M : Model} {prog : Program} {w : World} {A : Around} {E : Value → Shared → Prop}
  {R : Result → Shared → Prop} {hp : Heap} {gs : Array GenState} {dr : Drawn} {tk : Nat} {os : OsState}
variable {nm q : Str} {C N : Addr} {bs bm : List Value} {hdct : Bool} {sn : List Str} {sub : List Value}
  {ab : Bool} {col : Option Bool} {dd : Option Addr} {k0 k1 k2 k3 k5 : Option Value}
abbrev clsO (nm q : Str) (C N : Addr) (bs bm : List Value) (hdct : Bool) (sn : List Str) (sub : List Value)
    (ab : Bool) (col : Option Bool) (dd : Option Addr) (k0 k1 k2 k3 k5 : Option Value) : Obj :=
  excClassObj nm q C N bs bm hdct sn sub ab col dd k0 k1 k2 k3 k5 "ValueError.__new__"
theorem checkNewKw (hbm : refsVE bm = true) {us : List Value} {kw : List (Str × Value)} {Q : Unit → Shared → Prop}
    (hC : hp.get? C = some (clsO nm q C N bs bm hdct sn sub ab col dd k0 k1 k2 k3 k5)) (hq : Q () ⟨hp, gs, dr, tk, os⟩) :
    wpAny M A (checkBuiltinCall "ValueError.__new__" ⟨.ref C :: us, kw⟩) Q E ⟨hp, gs, dr, tk, os⟩ := by
  have e1 : (Value.ref C :: bm).contains (.type "ValueError") = true := by
    rw [List.contains_cons, refsVE_contains _ bm hbm]; simp
  have e2 := F.excBase_ValueError.noStar
  simp only [checkBuiltinCall, F.excBase_ValueError.newKind, F.excBase_ValueError.newSplit, F.excBase_ValueError.newRow]
  repeat (first
    | refine wpAny_loadPart_at hC ?_
    | (refine wpAny_isSubtype_exc hC ?_; rw [e1])
    | refine wpAny_staticBase_exc hC ?_
    | refine wpAny_madeBy_exc hC ?_
    | simp only [bne_self_eq_false, Bool.false_eq_true, if_false]
    | wp_step)
  all_goals exact hq
theorem newKw (hbm : refsVE bm = true) {us : List Value} {kw : List (Str × Value)}
    (hC : hp.get? C = some (clsO nm q C N bs bm hdct sn sub ab col dd k0 k1 k2 k3 k5)) (hz : us.length ≤ sizeLine)
    (hq : R (.ok (.ret (.ref (hp.objs.size + 1)))) ⟨(hp.push (W.kdv_tup us)).push (excO C hp.objs.size), gs, dr, tk, os⟩) :
    codeAny (model prog w) A (.builtin "ValueError.__new__" ⟨.ref C :: us, kw⟩) R ⟨hp, gs, dr, tk, os⟩ := by
  have e0 := F.excBase_ValueError.ends
  have has : ∀ X : String, (Value.ref C :: bm).contains (.type X) = veTail.contains (.type X) := fun X => by
    rw [List.contains_cons, refsVE_contains _ bm hbm]
    rfl
  have e1 := (has "ValueError").trans (by decide : _ = true)
  have e2 := (has "AttributeError").trans (by decide : _ = false)
  have e3 := (has "NameError").trans (by decide : _ = false)
  refine codeAny_builtinAt F.excBase_ValueError.entry ?_
  unfold Builtin.«BaseException.__new__»
  refine wpAt_bind ?_
  show wpAt _ _ _ (stack >>= _) _ _ _
  refine wpAt_bind (wpAt_stack fun p below => wpAt_of_wpAny ?_)
  wp_walk
  refine wpAt_of_wpAny ?_
  rw [F.excBase_ValueError.owner]
  repeat (first
    | with_reducible refine wpAny_madeHere_exc F.excBase_ValueError.canon hC ?_
    | with_reducible refine wpAny_loadPart_at hC ?_
    | (with_reducible refine wpAny_isSubtype_exc hC ?_; first | rw [e1] | rw [e2] | rw [e3])
    | wp_step)
  show R _ _
  rw [Heap.size_push]
  exact hq
theorem typeCallKw (hbm : refsVE bm = true) {us : List Value} {kw : List (Str × Value)} {fI : Addr} {Q : Fin → Shared → Prop}
    (hC : hp.get? C = some (clsO nm q C N bs bm hdct sn sub ab col dd k0 k1 k2 k3 k5))
    (hi : W.Looks (model prog w) hp (typeLookup (.ref C) "__init__") (some (.ref fI)))
    (hb : ∀ self, W.Looks (model prog w) hp (bindSpecial (.ref fI) self) (.ref fI, [self])) (hz : us.length ≤ sizeLine)
    (hq : codeAny (model prog w) A (.call (.ref fI) ⟨.ref (hp.objs.size + 1) :: us, kw⟩)
      (fun r s' => match r with
        | .ok (.ret v) => v = .none ∧ Q (.done (.ret (.ref (hp.objs.size + 1)))) s'
        | .ok _ => False
        | .error e => E e s')
      ⟨(hp.push (W.kdv_tup us)).push (excO C hp.objs.size), gs, dr, tk, os⟩) :
    wpAny (model prog w) A (Builtin.«type.__call__» ⟨.ref C :: us, kw⟩) Q E ⟨hp, gs, dr, tk, os⟩ := by
  repeat (first
    | with_reducible refine wpAny_loadPart_at hC ?_
    | with_reducible refine wpAny_madeBy_exc hC ?_
    | wp_step)
  refine codeAny_call_builtin_code (Code.quiet_builtin _ F.excBase_ValueError.quiet) (checkNewKw hbm hC ?_)
  refine newKw hbm hC hz ?_
  show wpAny _ _ _ _ _ _
  have kk : ∀ b o, hp.get? b = some o → ((hp.push (W.kdv_tup us)).push (excO C hp.objs.size)).get? b = some o :=
    fun b o e => Heap.get?_push_of_some _ (Heap.get?_push_of_some _ e)
  have hC2 := kk _ _ hC
  have hnew : ((hp.push (W.kdv_tup us)).push (excO C hp.objs.size)).get? (hp.objs.size + 1) = some (excO C hp.objs.size) := by
    heap_get
  have hself : (Value.ref C :: bm).contains (.ref C) = true := by simp
  have i2 := hi.keeps kk
  have b2 := (hb (.ref (hp.objs.size + 1))).keeps kk
  unfold isInstance
  repeat (first
    | with_reducible refine wpAny_loadPart_at hnew ?_
    | (with_reducible refine wpAny_isSubtype_exc hC2 ?_; rw [hself])
    | wp_step)
  show wpAny _ _ (typeLookup (.ref C) _) _ _ _
  refine i2.at (wpAny_holding (wpAny_bind (b2.at ?_)))
  refine wpAny_bind (wpAny_call (codeAny_mono hq fun r s' z => ?_))
  rcases r with e | (v | _ | _ | _) <;> first
    | exact z
    | exact z.elim
    | (obtain ⟨rfl, z⟩ := z; first
        | exact wpAny_pure (wpAny_pure z)
        | (wp_walk; exact z))
theorem callKw (hbm : refsVE bm = true) {us : List Value} {kw : List (Str × Value)} {fI : Addr}
    (hC : hp.get? C = some (clsO nm q C N bs bm hdct sn sub ab col dd k0 k1 k2 k3 k5))
    (hi : W.Looks (model prog w) hp (typeLookup (.ref C) "__init__") (some (.ref fI)))
    (hb : ∀ self, W.Looks (model prog w) hp (bindSpecial (.ref fI) self) (.ref fI, [self])) (hz : us.length ≤ sizeLine)
    (hq : codeAny (model prog w) (A.under (.builtin "type.__call__" ⟨.ref C :: us, kw⟩)) (.call (.ref fI) ⟨.ref (hp.objs.size + 1) :: us, kw⟩)
      (W.InitBack (hp.objs.size + 1) R) ⟨(hp.push (W.kdv_tup us)).push (excO C hp.objs.size), gs, dr, tk, os⟩) :
    codeAny (model prog w) A (.call (.ref C) ⟨us, kw⟩) R ⟨hp, gs, dr, tk, os⟩ := by
  have f1 := tc_lookup
  have f2 := tc_bind (.ref C)
  have hTy : (⟨hp, gs, dr, tk, os⟩ : Shared).TypeIs (.ref C) "type" := ⟨_, hC, rfl⟩
  refine codeAny_of_tree ?_
  show wpAny _ _ (callAny (.ref C) _) _ _ _
  repeat (any_goals (first
    | assumption
    | with_reducible refine wpAny_loadPart_at hC ?_
    | wp_step))
  refine ⟨rfl, ?_⟩
  refine codeAny_call_builtin_at (Code.quiet_builtin _ (by decide +kernel)) entry_typeCall
    (wpAny_check_type_call_sub hC (typeCallKw hbm hC hi hb hz ?_))
  refine codeAny_mono hq fun r s' z => ?_
  rcases r with e | (v | _ | _ | _) <;> exact z
end
end EKw
set_option Elab.async false
set_option linter.all false
set_option maxRecDepth 100000
set_option maxHeartbeats 4000000
/-! Own exceptions (over ValueError, with an __init__ of their own) held as values: made, their fields read, asked by isinstance. -/
namespace EV
open PySem PySem.Spec PyProof.Rows L2
/-- an error of the class at C stands at a; its dict at d holds fs -/
structure ErrAt (H : Hp) (a C d : Addr) (fs : List (Str × V)) : Prop where
  ob : H a = some (exo a C (some d))
  dc : H d = some (exd d fs)
/-- C(..), the class's own __init__ keeping sp, handed the values vs -/
def tErr (C : Addr) (sp : Sp) (gV : List V → List V) (E : XK) (t : TA) : TE := fun σ H Q => t σ H fun vs H1 => vs.length ≤ 1000 ∧
  ∀ a, H1 a = none → sp (.ref a :: gV vs) (upd H1 a (exo a C none)) (fun v H2 => v = .non ∧ Q (.ref a) H2) E
section
variable {X : Cx} {CX : CXT} {k n : Nat} {fI C : Addr} {fd : FuncData} {ps ks : List Str} {sp : Sp} {E : XK} {x : Str}
  {p pos : Pos} {e : Expr} {es : List Expr} {kws : List Keyword} {t tk : TA}
theorem run_err {pins : List (Addr × Obj)} {σ : L2.St} {H : Hp} {s : Shared} {Q : VK} {us bs : List Value} {kw : List (Str × Value)} {vs : List V}
    (T : OexC X.K C) (iC : PySem.W.findIn X.K (.ref C) "__init__" = some (some (.ref fI)))
    (tI : PySem.W.typeIn X.K (.ref fI) = some (.type "function"))
    (F1 : FnOk X.prog X.w X.K X.mg X.base CX k fI fd ps sp) (hr : Room (k + 1) X.A)
    (hb : ∀ (s' : Shared) (a : Addr), X.K.In s'.heap → BindsTo s' fd ⟨.ref a :: us, kw⟩ (ps.zip (.ref a :: bs)))
    (hx : Passes CX X E) (I : Inv X pins σ H s) (r : Vals vs bs) (hz : us.length ≤ sizeLine)
    (h : ∀ a, H a = none → sp (.ref a :: vs) (upd H a (exo a C none)) (fun v H2 => v = .non ∧ Q (.ref a) H2) E) :
    wpAny (model X.prog X.w) X.A (call (.ref C) us kw) (EP X pins σ Q) X.xe s := by
  obtain ⟨nm, q, N, bbs, bm, sn, sub, ab, col, dd, k0, k1, k2, k3, k5, hC, hbm⟩ := T.cls
  obtain ⟨hp, g, dr, tk, os⟩ := s
  have hsz : hp.objs.size ≤ hp.objs.size + 1 := Nat.le_succ _
  have hq := h (hp.objs.size + 1) (I.hok.fresh hsz)
  have kk : ∀ b o, hp.get? b = some o → ((hp.push (PySem.W.kdv_tup us)).push (PySem.HandSPX.excO C hp.objs.size)).get? b = some o :=
    fun b o z => Heap.get?_push_of_some _ (Heap.get?_push_of_some _ z)
  have hget : ((hp.push (PySem.W.kdv_tup us)).push (PySem.HandSPX.excO C hp.objs.size)).get? (hp.objs.size + 1) = some (PySem.HandSPX.excO C hp.objs.size) := by
    heap_get
  have I2 := I.laid (t' := tk) (a := hp.objs.size + 1) (o := exo (hp.objs.size + 1) C none) kk hsz (exo_ok hget)
  have r2 : Vals (V.ref (hp.objs.size + 1) :: vs) (Value.ref (hp.objs.size + 1) :: bs) := .cons rfl r
  refine wpAny_call (EKw.callKw hbm (I.kIn _ _ hC) (PySem.W.looks_findIn I.kIn iC) (fun self => PySem.W.bind_fn I.kIn self tI) hz
    (codeAny_mono (F1.run _ X.stack _ _ ⟨Value.ref (hp.objs.size + 1) :: us, kw⟩ _ _ _ E (hr.make C us kw)
      (I2.env0.make C us kw) (hb _ _ I2.kIn) r2 hq) fun r s' hq' => ?_))
  cases r with
  | error er => exact hx pins σ _ _ er s' I2 hq'
  | ok fl =>
    cases fl with
    | ret u =>
      obtain ⟨v, H', I3, rv, ev, q3⟩ := I2.after hq'
      subst ev
      exact ⟨rv, V.ref (hp.objs.size + 1), H', I3, rfl, q3⟩
    | _ => exact False.elim hq'
/-- C(e, ..) -/
theorem pe_err (T : OexC X.K C) (iC : PySem.W.findIn X.K (.ref C) "__init__" = some (some (.ref fI)))
    (tI : PySem.W.typeIn X.K (.ref fI) = some (.type "function"))
    (F1 : FnOk X.prog X.w X.K X.mg X.base CX k fI fd ps sp) (hr : Room (k + 1) X.A) (hb : Binds X.K fd ps []) (hx : Passes CX X E)
    (hg : Gl X x) (hm : X.mg x = some (.ref C)) (ha : PA X (e :: es) t)
    (hdb : (x == ("__debug__" : Str)) = false := by decide)
    (he : starEach (e :: es) X.env = (false, eval e X.env) :: starEach es X.env := by rfl)
    (hpl : (backTo pos (starEach es X.env)).any (·.1) = false := by rfl) :
    PE X (.Call (.Name x p) (e :: es) [] pos) (tErr C sp (fun vs => vs) E t) := by
  refine ⟨fun pins s σ H Q I h => ?_⟩
  refine wpAny_Call_Name_kw (ld_glob I hg hm ?_ hdb)
  refine PySem.W.callWith_K (h₀ := X.base) I.ok.mod.kin T.kC (thn (ha.run pos pins s σ H _ I h) fun us s1 ⟨vs, H1, I1, r1, hz, q1⟩ => ⟨I1.kIn, ?_⟩) he hpl
  show wpAny _ _ (call (.ref C) us) _ _ _
  have hl : vs.length = us.length := r1.length
  refine run_err T iC tI F1 hr (fun s' a X' => ?_) hx I1 r1 ?_ q1
  · have hn := F1.len _ _ _ _ (q1 _ (I1.hok.fresh (Nat.le_refl _)))
    have z := hb s' (.ref a :: us) X' (by
      rw [List.append_nil, ← hn, List.length_cons, List.length_cons, hl])
    rw [List.append_nil] at z
    exact z
  · rw [← hl, sizeLine_eq]
    omega
/-- C(f = e, ..), no argument by position -/
theorem pe_errK {g : List Value → List Value → List Value} {gV : List V → List V → List V} (T : OexC X.K C)
    (iC : PySem.W.findIn X.K (.ref C) "__init__" = some (some (.ref fI)))
    (tI : PySem.W.typeIn X.K (.ref fI) = some (.type "function"))
    (F1 : FnOk X.prog X.w X.K X.mg X.base CX k fI fd ps sp) (hr : Room (k + 1) X.A) (hx : Passes CX X E)
    {gk : List Value → List Value} {gv : List V → List V}
    (hb : ∀ (s' : Shared) (a : Addr) (ws : List Value), X.K.In s'.heap → ws.length = ks.length → BindsTo s' fd ⟨[.ref a], ks.zip ws⟩ (ps.zip (.ref a :: gk ws)))
    (hgv : ∀ {zs : List V} {ws : List Value}, zs.length = ks.length → Vals zs ws → Vals (gv zs) (gk ws))
    (hg : Gl X x) (hm : X.mg x = some (.ref C)) (hkw : PK X kws tk)
    (hall : (backToKw pos (keywordEach kws X.env)).all (·.1.isSome) = true := by rfl)
    (hks : (backToKw pos (keywordEach kws X.env)).filterMap (·.1) = ks := by rfl)
    (hdb : (x == ("__debug__" : Str)) = false := by decide)
    (hpl : ((backTo pos (starEach [] X.env)).any (·.1) || (backToKw pos (keywordEach kws X.env)).any (·.1.isNone)) = false := by rfl) :
    PE X (.Call (.Name x p) [] kws pos) (fun σ H Q => tk σ H fun zs H1 => zs.length = ks.length ∧
      ∀ a, H1 a = none → sp (.ref a :: gv zs) (upd H1 a (exo a C none)) (fun v H2 => v = .non ∧ Q (.ref a) H2) E) := by
  refine ⟨fun pins s σ H Q I h => ?_⟩
  refine wpAny_Call_Name_kw (ld_glob I hg hm ?_ hdb)
  refine PySem.W.callWith_KW0 (h₀ := X.base) I.ok.mod.kin T.kC hall ?_ hpl
  refine thn (hkw.run pos pins s σ H _ I h) fun ws s2 ⟨zs, H2, I2, rz, l2, q2⟩ => ⟨I2.kIn, ?_⟩
  rw [hks]
  have hl : zs.length = ws.length := rz.length
  exact run_err T iC tI F1 hr (fun s' a X' => hb s' a ws X' (by rw [← hl, l2])) hx I2 (hgv l2 rz) (Nat.zero_le _) q2
end
/-! ### a field is read -/
def tEf (K : PySem.W.Frag) (te : TE) (f : Str) : TE := fun σ H Q => te σ H fun x H1 => ∃ a C d fs v, x = .ref a ∧ ErrAt H1 a C d fs ∧ XfC K C ∧
  PySem.W.findIn K (.ref C) f = some none ∧ fs.lookup f = some v ∧ Q v H1
theorem inst_of {X : Cx} {pins : List (Addr × Obj)} {σ : L2.St} {H : Hp} {s : Shared} {a C d : Addr} {fs : List (Str × V)} (I : Inv X pins σ H s) (r : ErrAt H a C d fs) :
    ∃ (ox od : Obj) (mA : Str → Option Value), PySem.W.InstAt s.heap a ox C (some od) ∧ s.heap.get? d = some od ∧ (∀ n, PySem.W.lookIn n od = some (mA n)) ∧ ∀ n, RelO (fs.lookup n) (mA n) := by
  obtain ⟨t1, ha⟩ := exo_at I.hok r.ob
  obtain ⟨mA, hns, rel⟩ := exd_at I.hok r.dc
  obtain ⟨od, ho, hl⟩ := lookIn_ns hns
  exact ⟨_, od, mA, ⟨ha, rfl, rfl, ho⟩, ho, hl, rel⟩
theorem pe_ef {X : Cx} {e : Expr} {te : TE} {pos : Pos} {f : Str} (he : PE X e te) (hb : attributeBase e f X.env (eval e X.env) = eval e X.env := by rfl) :
    PE X (.Attribute e f pos) (tEf X.K te f) := by
  refine ⟨fun pins s σ H Q I h => ?_⟩
  refine attr_of hb (thn (he.run pins s σ H _ I h) fun u s1 hh => ?_)
  obtain ⟨x, H1, I1, rx, a, C, d, fs, v, ex, r, T, hno, l, q⟩ := hh
  subst ex
  obtain rfl : u = Value.ref a := rx
  obtain ⟨ox, od, mA, J, ho, hl, rel⟩ := inst_of I1 r
  obtain ⟨w, hw, rw'⟩ := RelO.some_of (v := v) (o := mA f) (by rw [← l]; exact rel f)
  exact HandSPX.exc_get I1.kIn J T.ga T.gg T.exC (PySem.W.findObj_own T.hdC hno rfl (by rw [hl, hw])) (handed_of rw') ⟨v, H1, I1.tok _, rw', q⟩
/-! ### isinstance -/
/-- an error of the class at C: with an own dict, or without -/
def IsErr (H : Hp) (a C : Addr) : Prop := (∃ d fs, ErrAt H a C d fs) ∨ H a = some (ExO (.ref C) a)
theorem kit_err {X : Cx} {pins : List (Addr × Obj)} {σ : L2.St} {H : Hp} {s : Shared} {a C : Addr} (I : Inv X pins σ H s) (r : IsErr H a C) (T : L2.ExcC X.K C) :
    ∃ P : Heap → Prop, PySem.W.KitX X.K (.ref a) (.ref C) P ∧ P s.heap := by
  have hcl : (PySem.W.clsIn X.K C).isSome = true := by
    obtain ⟨cd, hc, _⟩ := PySem.W.any_some T.hd
    rw [hc]
    rfl
  rcases r with ⟨d, fs, r⟩ | r
  · obtain ⟨ox, od, mA, J, _⟩ := inst_of I r
    exact ⟨_, PySem.W.kitx_exc hcl T.hg T.hk T.hs T.ha T.hn T.ht T.hm, J⟩
  · obtain ⟨⟨oe, vs, ho, hz, hd, _⟩, _, _⟩ := I.hok a _ r
    refine ⟨_, PySem.W.kitx_exc (ox := oe) (od := none) hcl T.hg T.hk T.hs T.ha T.hn T.ht T.hm, ?_⟩
    obtain ⟨oc, od, oda, osl⟩ := oe
    obtain ⟨h1, h2⟩ := hz
    dsimp only at h1 h2 hd
    subst h1 h2 hd
    exact ⟨ho, rfl, rfl, trivial⟩
def rIsErr (K : PySem.W.Frag) : List V → Hp → VK → Prop := fun xs H Q => ∃ (a C : Addr) (c : V) (u : Value) (b : Bool), xs = [.ref a, c] ∧ IsErr H a C ∧ L2.ExcC K C ∧ ClsV c u ∧
  PySem.W.kitOne K (.ref C) u = some b ∧ Q (.bl b) H
def rIsErrT (K : PySem.W.Frag) : List V → Hp → VK → Prop := fun xs H Q => ∃ (a C tp : Addr) (cs : List V) (us : List Value) (b : Bool), xs = [.ref a, .ref tp] ∧ IsErr H a C ∧ L2.ExcC K C ∧
  H tp = some (.tup cs) ∧ Paired ClsV cs us ∧ PySem.W.kitAny K (.ref C) us = some b ∧ Q (.bl b) H
theorem call_isErr {X : Cx} : CallR X (.builtin "isinstance") (rIsErr X.K) := by
  intro pins s σ H xs us Q I r h
  obtain ⟨a, C, c, u, b, rfl, hi, T, k, e, q⟩ := h
  obtain ⟨u1, u2, rfl, r1, r2⟩ := vals2 r
  have e2 := k.eq r2
  subst e2
  cases (show u1 = Value.ref a from r1)
  obtain ⟨P, Z, p⟩ := kit_err I hi T
  exact PySem.W.kia_one Z I.kIn p e (fun z => nomatch z) fun tk => ⟨.bl b, H, I.tok tk, rfl, q⟩
theorem call_isErrT {X : Cx} : CallR X (.builtin "isinstance") (rIsErrT X.K) := by
  intro pins s σ H xs us Q I r h
  obtain ⟨a, C, tp, cs, ws, b, rfl, hi, T, hT, k, e, q⟩ := h
  obtain ⟨u1, u2, rfl, r1, r2⟩ := vals2 r
  cases (show u1 = Value.ref a from r1)
  cases (show u2 = Value.ref tp from r2)
  obtain ⟨P, Z, p⟩ := kit_err I hi T
  obtain ⟨_, its, rv, o, h1, h2, n, h3⟩ := (show ObjOk X.prog X.w H s.heap tp (.tup cs) from I.hok tp _ hT)
  have e3 := ClsV.all k rv
  subst e3
  obtain ⟨oc, od, dt, sl⟩ := o
  simp only at h2 h3
  subst h2 h3
  exact PySem.W.kia_tup Z I.kIn p h1 e (fun z => nomatch z) fun tk => ⟨.bl b, H, I.tok tk, rfl, q⟩
end EV
set_option Elab.async false
set_option linter.all false
set_option maxRecDepth 100000
set_option maxHeartbeats 4000000
/-! What the written part must say of own exception classes, as one Bool; a Hook by any Bool. -/
namespace EF
open PySem PySem.Spec PyProof.Rows L2 EV He
abbrev veT : List Value := [.type "ValueError", .type "Exception", .type "BaseException", .type "object"]
def clsShape (K : PySem.W.Frag) (C : Addr) (bm : List Value) : Bool := match K.lookup C with
  | some ⟨.type "type", _, .cls cd, sl⟩ => decide (cd.mro = .ref C :: bm) && (cd.hasDict && (!cd.hasDel && (match sl.toList with
    | [_, _, _, _, some (.builtin n), _] => n == "ValueError.__new__"
    | _ => false)))
  | _ => false
theorem clsShape_ok {K : PySem.W.Frag} {C : Addr} {bm : List Value} (h : clsShape K C bm = true) :
    ∃ nm q N bs sn sub ab col dd k0 k1 k2 k3 k5, K.lookup C = some (excClassObj nm q C N bs bm true sn sub ab col dd k0 k1 k2 k3 k5 "ValueError.__new__") := by
  unfold clsShape at h
  split at h
  · rename_i dd cd sl ho
    obtain ⟨h1, h⟩ := ba h
    obtain ⟨h2, h⟩ := ba h
    obtain ⟨h3, h4⟩ := ba h
    split at h4
    · rename_i k0 k1 k2 k3 n k5 hs
      obtain ⟨nm, bs, mro, ns, qn, hd, sn, sub, ab, col, del⟩ := cd
      have e1 : mro = .ref C :: bm := of_decide_eq_true h1
      have e2 : hd = true := h2
      have e3 : del = false := by simpa using h3
      have e4 : n = "ValueError.__new__" := beq_iff_eq.mp h4
      have e5 : sl = #[k0, k1, k2, k3, some (.builtin n), k5] := by
        obtain ⟨l⟩ := sl
        simp only at hs
        rw [hs]
      subst e1 e2 e3 e4 e5
      exact ⟨nm, qn, ns, bs, sn, sub, ab, col, dd, k0, k1, k2, k3, k5, ho⟩
    · cases h4
  · cases h
/-- the classes above x, own ones, then ValueError's -/
abbrev above (K : PySem.W.Frag) (bs : List Str) : List Value := bs.map (fun b => Value.ref (ga K b)) ++ veT
def errB (K : PySem.W.Frag) (x : Str) (bs : List Str) : Bool :=
  clsShape K (ga K x) (above K bs) && (eqO (PySem.W.findIn K (.ref (ga K x)) "__setattr__") (some (some (.builtin "object.__setattr__"))) &&
  (eqO (PySem.W.findIn K (.ref (ga K x)) "__getattribute__") (some (some (.builtin "BaseException.__getattribute__"))) &&
  (eqO (PySem.W.findIn K (.ref (ga K x)) "__getattr__") (some none) && (PySem.W.keepIn K (.ref (ga K x)) &&
  (eqO (PySem.W.findIn K (.ref (ga K x)) "__class__") (some (some (.builtin "object.__class__"))) && eqO (PySem.W.nsIn K mainGlobals x) (some (some (.ref (ga K x)))))))))
structure ErrK (K : PySem.W.Frag) (x : Str) (bs : List Str) : Prop where
  ox : OexC K (ga K x)
  xf : XfC K (ga K x)
  ex : L2.ExcC K (ga K x)
  hc : (PySem.W.clsIn K (ga K x)).isSome = true
  sub : ∀ v, PySem.W.subIn K (.ref (ga K x)) v = some ((Value.ref (ga K x) :: above K bs).contains v)
  nm : PySem.W.nsIn K mainGlobals x = some (some (.ref (ga K x)))
/-- what isinstance asks of every object -/
def objB (K : PySem.W.Frag) : Bool := eqO (PySem.W.specialIn K (.builtin "object.__class__") "__get__") (some (some (.builtin "getset_descriptor.__get__"))) && decide (PySem.W.takesIn K (.builtin "object.__class__") = some true)
theorem refs_above {K : PySem.W.Frag} (bs : List Str) : PySem.HandSPX.refsVE (above K bs) = true := by
  induction bs with
  | nil => exact (by decide : PySem.HandSPX.refsVE veT = true)
  | cons b bs ih => exact ih
theorem errB_ok {K : PySem.W.Frag} {x : Str} {bs : List Str} (h : errB K x bs = true) (ho : objB K = true) : ErrK K x bs := by
  obtain ⟨h1, h⟩ := ba h
  obtain ⟨h2, h⟩ := ba h
  obtain ⟨h3, h⟩ := ba h
  obtain ⟨h4, h⟩ := ba h
  obtain ⟨h5, h⟩ := ba h
  obtain ⟨h6, h7⟩ := ba h
  obtain ⟨o1, o2⟩ := ba ho
  obtain ⟨nm, q, N, bbs, sn, sub, ab, col, dd, k0, k1, k2, k3, k5, hC⟩ := clsShape_ok h1
  have hcl : PySem.W.clsIn K (ga K x) = some { name := nm, bases := bbs, mro := .ref (ga K x) :: above K bs, ns := N, qualname := q, hasDict := true, slotNames := sn, subclasses := sub, abstract := ab, collection := col, hasDel := false } := by
    unfold PySem.W.clsIn
    rw [hC] <;> rfl
  have hsub : ∀ v, PySem.W.subIn K (.ref (ga K x)) v = some ((Value.ref (ga K x) :: above K bs).contains v) := fun v => by
    show PySem.W.mroIn K (ga K x) v = _
    unfold PySem.W.mroIn
    rw [hcl]
    rfl
  have hbase : PySem.W.subIn K (.ref (ga K x)) (.type "BaseException") = some true := by
    rw [hsub, List.contains_cons, PySem.HandSPX.refsVE_contains _ _ (refs_above bs)]
    rfl
  have hobj : PySem.W.mroIn K (ga K x) (.type "object") = some true := by
    have e := hsub (.type "object")
    rw [List.contains_cons, PySem.HandSPX.refsVE_contains _ _ (refs_above bs)] at e
    exact e.trans rfl
  have hty : PySem.W.typeIn K (.ref (ga K x)) = some (.type "type") := by
    show (K.lookup (ga K x)).map (·.cls) = _
    rw [hC] <;> rfl
  have hd : PySem.W.hasDictIn K (ga K x) = true := by
    unfold PySem.W.hasDictIn
    rw [hcl] <;> rfl
  exact ⟨⟨⟨nm, q, N, bbs, above K bs, sn, sub, ab, col, dd, k0, k1, k2, k3, k5, hC, refs_above bs⟩, eqO_ok h2, hbase, hty, h5⟩,
    ⟨eqO_ok h3, eqO_ok h4, hbase, hd⟩, ⟨eqO_ok h3, eqO_ok h4, hbase, hd, eqO_ok h6, eqO_ok o1, of_decide_eq_true o2, hobj⟩, by rw [hcl]; rfl, hsub, eqO_ok h7⟩
theorem veT_ref (c : Addr) : veT.contains (.ref c) = false := by
  simp [List.contains_cons]
theorem contains_refs {K : PySem.W.Frag} (bs : List Str) (c : Addr) : (above K bs).contains (.ref c) = decide (c ∈ bs.map (ga K)) := by
  induction bs with
  | nil => exact (veT_ref c).trans (by simp)
  | cons b bs ih =>
    show (Value.ref (ga K b) :: above K bs).contains (.ref c) = _
    rw [List.contains_cons, ih]
    by_cases e : c = ga K b
    · subst e
      simp
    · have e2 : (Value.ref c == Value.ref (ga K b)) = false := by
        rw [beq_eq_false_iff_ne]
        intro z
        exact e (Value.ref.inj z)
      rw [e2]
      simp [e]
/-- isinstance of an error of the class x against the class y -/
theorem kit {K : PySem.W.Frag} {x y : Str} {bs cs : List Str} (X : ErrK K x bs) (Y : ErrK K y cs) :
    PySem.W.kitOne K (.ref (ga K x)) (.ref (ga K y)) = some (decide (ga K y = ga K x ∨ ga K y ∈ bs.map (ga K))) := by
  unfold PySem.W.kitOne
  by_cases e : ga K y = ga K x
  · rw [e, if_pos (by simp)]
    simp
  · have ne : (Value.ref (ga K x) == Value.ref (ga K y)) = false := by
      rw [beq_eq_false_iff_ne]
      intro z
      exact e (Value.ref.inj z).symm
    rw [ne, if_neg Bool.false_ne_true]
    unfold PySem.W.kitCls
    have t : ((PySem.W.clsIn K (ga K y)).isSome && PySem.W.typeIn K (.ref (ga K y)) == some (.type "type")) = true := by
      rw [Y.hc, Y.ox.tyC]
      rfl
    show (if ((PySem.W.clsIn K (ga K y)).isSome && PySem.W.typeIn K (.ref (ga K y)) == some (.type "type")) = true then _ else _) = _
    rw [if_pos t, X.sub, List.contains_cons, contains_refs]
    have e3 : (Value.ref (ga K y) == Value.ref (ga K x)) = false := by
      rw [beq_eq_false_iff_ne]
      intro z
      exact e (Value.ref.inj z)
    rw [e3, Bool.false_or]
    simp [e]
/-- .. against a built-in class -/
theorem kitT {K : PySem.W.Frag} {x : Str} {bs : List Str} (X : ErrK K x bs) {T : String} (hm : PySem.W.kitMeta T = true) :
    PySem.W.kitOne K (.ref (ga K x)) (.type T) = some (veT.contains (.type T)) := by
  unfold PySem.W.kitOne
  rw [if_neg (fun z => nomatch (beq_iff_eq.mp z : Value.ref _ = Value.type _))]
  show (if PySem.W.kitMeta T = true then PySem.W.subIn K (.ref (ga K x)) (.type T) else none) = _
  rw [if_pos hm, X.sub, List.contains_cons, PySem.HandSPX.refsVE_contains _ _ (refs_above bs)]
  rfl
/-! ### a Hook by a Bool -/
def obsX (ck : PySem.W.Frag → Bool) (fn : List DefD) (K : PySem.W.Frag) : AlD := (ck K && fn.all fun d => d.ok K, fn.map fun d => fnW K d.at_)
def SaysX (ck : PySem.W.Frag → Bool) (fn : List DefD) (K : PySem.W.Frag) : Prop := obsX ck fn K = valD fn
def obsXG (n : Nat) (ck : PySem.W.Frag → Bool) (fn : List DefD) (g : Addr → Option Obj) : AlD := obsX ck fn (frG g (asD g n))
def hookX (n : Nat) (ck : PySem.W.Frag → Bool) (fn : List DefD) : PySem.W.Hook where
  α := AlD
  obs := fun s => obsXG n ck fn s.heap.get?
  val := fun _ => valD fn
  says := fun _ h => ∃ K : PySem.W.Frag, K.In h ∧ SaysX ck fn K
  of := fun _ _ e => ⟨_, frG_in, e⟩
  keeps := fun _ _ _ ⟨K, hK, c⟩ k => ⟨K, PySem.W.Frag.In.keeps hK k, c⟩
theorem obsXG_eq {n : Nat} {ck : PySem.W.Frag → Bool} {fn : List DefD} {g : Addr → Option Obj} {s : Shared} (h : ∀ a, g a = s.heap.get? a) : obsXG n ck fn g = (hookX n ck fn).obs s := by
  rw [show g = s.heap.get? from funext h]
  rfl
section
variable {ck : PySem.W.Frag → Bool} {fn : List DefD} {K : PySem.W.Frag}
theorem SaysX.chk (c : SaysX ck fn K) : ck K = true := (ba (congrArg (fun z : AlD => z.1) c : (ck K && fn.all fun d => d.ok K) = true)).1
theorem SaysX.def_ (c : SaysX ck fn K) (i : Nat) {d : DefD} (h : fn[i]? = some d := by rfl) : ∃ fd, FunD K d.name d.qual d.params d.body d.scope (d.dvs K) (d.kws K) (fAd K d.at_) fd := by
  have c2 := (ba (congrArg (fun z : AlD => z.1) c : (ck K && fn.all fun d => d.ok K) = true)).2
  have e : fn.map (fun d => fnW K d.at_) = fn.map DefD.val := congrArg (fun z : AlD => z.2) c
  have e2 : (fn.map fun d => fnW K d.at_)[i]? = (fn.map DefD.val)[i]? := by rw [e]
  rw [List.getElem?_map, List.getElem?_map, h] at e2
  exact DefD.funD (Option.some.inj e2) (List.all_eq_true.mp c2 d (List.mem_of_getElem? h))
end
end EF
set_option Elab.async false
set_option linter.all false
set_option maxRecDepth 100000
set_option maxHeartbeats 4000000
/-! The facts of the row's head: classes, errors, defs, the tables of the defs that make lambdas. -/
namespace K6
open PySem PySem.Spec PyProof.Rows L2 He EF
abbrev R : PySem.W.OpenRow := PySem.W.OpenLaw.row PySem.Challenge.rw_editionlines_k62_whole_notes_of_rows_of
def bT : List Str := ["BadInput", "EditionError"]
def bM : List Str := ["NoAnswer", "EditionError"]
def errsN : List (Str × List Str) := [("BadFix", bT), ("BadLot", bT), ("BadNumber", bT), ("BadText", bT), ("BadWay", bT), ("TooMany", bM), ("Unlike", bM), ("BadInput", ["EditionError"]), ("NoAnswer", ["EditionError"]), ("EditionError", [])]
def freesN : List Str := ["int", "len", "abs", "list", "repr", "range", "isinstance", "ValueError", "LookupError", "bool", "str", "all", "tuple", "iter", "sorted", "enumerate", "any", "dict"]
def topsN : List (Str × Nat) := [("is_integer", 2), ("is_within", 3), ("is_fix", 4), ("take_fix_behind", 21), ("take_fixes", 22), ("is_open_to_change", 27), ("kept_value", 28), ("is_told", 35), ("note_of", 36), ("fixes_without", 37), ("can_follow", 38), ("_law_pen", 41), ("_law_draw", 42), ("_law_pick", 43),
  ("_law_heard", 44), ("_law_lot", 45), ("_law_fixes", 46), ("_law_row_right", 47), ("_law_sum_right", 48), ("law", 49)]
def methN : List (Str × Nat) := [("is_next", 5), ("take", 6), ("take_fix", 7), ("take_by", 9), ("step", 10), ("refuse", 11), ("end", 13)]
def lotN : List (Str × Nat) := [("__init__", 1), ("__str__", 4), ("__eq__", 5), ("__contains__", 6), ("__len__", 7), ("__iter__", 8), ("__getitem__", 9), ("__or__", 10), ("__and__", 11), ("__sub__", 12), ("__xor__", 13), ("__le__", 14), ("__ge__", 15), ("__lt__", 16), ("__gt__", 17), ("sifted", 18)]
def noteN : List (Str × Nat) := [("__str__", 2), ("__eq__", 3), ("__bool__", 4), ("__neg__", 5), ("__add__", 6)]
/-- a method's statement -/
abbrev wSt (j : Nat) : Stmt := inClass (top 19) j
abbrev lSt (j : Nat) : Stmt := inClass (top 23) j
abbrev nSt (j : Nat) : Stmt := inClass (top 39) j
def dTop (q : Str × Nat) : DefD := ⟨(q.1, none), q.1, q.1, defArgs (top q.2), defBody (top q.2), defScope (top q.2), [], []⟩
def dMeth (q : Str × Nat) : DefD := ⟨("Words", some q.1), q.1, "Words." ++ q.1, defArgs (wSt q.2), defBody (wSt q.2), defScope (wSt q.2), [], []⟩
def dLot (q : Str × Nat) : DefD := ⟨("Lot", some q.1), q.1, "Lot." ++ q.1, defArgs (lSt q.2), defBody (lSt q.2), defScope (lSt q.2), [], []⟩
def dNote (q : Str × Nat) : DefD := ⟨("Note", some q.1), q.1, "Note." ++ q.1, defArgs (nSt q.2), defBody (nSt q.2), defScope (nSt q.2), [], []⟩
def mkN : List (Str × Nat) := [("Number", 32), ("Release", 33), ("Note", 39)]
def dMk (q : Str × Nat) : DefD := ⟨(q.1, some "__init__"), "__init__", q.1 ++ ".__init__", defArgs (inClass (top q.2) 0), defBody (inClass (top q.2) 0), defScope (inClass (top q.2) 0), [], []⟩
def dInitW : DefD := ⟨("Words", some "__init__"), "__init__", "Words.__init__", defArgs (wSt 0), defBody (wSt 0), defScope (wSt 0), [.int 0], []⟩
def dInitE (x : Str) (i : Nat) : DefD := ⟨(x, some "__init__"), "__init__", x ++ ".__init__", defArgs (inClass (top i) 0), defBody (inClass (top i) 0), defScope (inClass (top i) 0), [], []⟩
def iniN : List (Str × Nat × List Str) := [("BadFix", 9, ["value"]), ("BadLot", 10, ["part"]), ("BadNumber", 11, ["value"]), ("BadText", 12, ["line", "word"]), ("BadWay", 13, ["value"]), ("TooMany", 14, ["what", "most"]), ("Unlike", 15, ["part"])]
def fns : List DefD := (topsN.map dTop) ++ (methN.map dMeth) ++ (lotN.map dLot) ++ (noteN.map dNote) ++ (mkN.map dMk) ++ [dInitW] ++ (iniN.map fun q => dInitE q.1 q.2.1)
def fas : List Fa := (freesN.map Fa.free) ++ (topsN.map fun q => Fa.glo q.1) ++ (methN.map fun q => Fa.meth "Words" q.1) ++ (lotN.map fun q => Fa.meth "Lot" q.1) ++ (noteN.map fun q => Fa.meth "Note" q.1) ++ (mkN.map fun q => Fa.glo q.1) ++ (mkN.map fun q => Fa.cls q.1) ++ (mkN.map fun q => Fa.mkr q.1) ++ [.glo "Words", .cls "Words", .mkr "Words", .noat "Words" "parts", .noat "Words" "line", .noat "Words" "taken", .glo "Lot", .cls "Lot", .mkr "Lot", .noat "Lot" "fixes", .noat "Number" "line", .noat "Number" "at", .noat "Release" "number", .noat "Release" "lot", .noat "Note" "gained", .noat "Note" "lost", .int "LINES" 6, .int "RELEASES" 60]
def tabN : List Defn := [("take_fix_behind", none), ("_law_sum_right", none), ("law", none)]
def iniE (K : PySem.W.Frag) (x : Str) (fs : List Str) : Bool := eqO (PySem.W.findIn K (.ref (ga K x)) "__init__") (some (some (.ref (ma K (ga K x) "__init__")))) && (decide (PySem.W.typeIn K (.ref (ma K (ga K x) "__init__")) = some (.type "function")) &&
  fs.all fun f => eqO (PySem.W.findIn K (.ref (ga K x)) f) (some none))
def bmB (K : PySem.W.Frag) (g : Addr) : Bool := eqO (PySem.W.specialIn K (.ref g) "__get__") (some (some (.builtin "function.__get__"))) && (decide (PySem.W.takesIn K (.ref g) = some false) && PySem.W.fnIn K g)
def exmB (K : PySem.W.Frag) (x : Str) (c : Value) (b : Bool) : Bool := decide (PySem.W.exmOne K (.ref (ga K x)) c = some b)
/-- the tables are not one another's -/
def apart (K : PySem.W.Frag) : Bool := decide ((tabN.map fun p => (cT K p).2).Nodup)
/-- the kinds that are set beside a lot -/
def besT : List String := ["NoneType", "bool", "int", "str", "tuple", "list", "dict"]
/-- what a lot's class has not -/
def lacks : List Str := ["__bool__", "__ior__", "__iand__", "__isub__", "__ixor__", "__ror__", "__rand__", "__rsub__", "__rxor__"]
def mostB (K : PySem.W.Frag) : Bool := match PySem.W.findCls K (.ref (ga K "Lot")) (.type "type") "MOST" with
  | some (.val (.int n _)) => decide (n = 8)
  | _ => false
def lotB1 (K : PySem.W.Frag) (C : Addr) : Bool := eqO (PySem.W.findIn K (.ref C) "__class__") (some (some (.builtin "object.__class__"))) && (decide (PySem.W.mroIn K C (.type "object") = some true) && (PySem.W.selfFirst K C && (PySem.W.noSeq K C && (PySem.W.clsIn K C).any fun cd => decide (cd.mro = [.ref C, .type "object"]))))
def lotB2 (K : PySem.W.Frag) (C : Addr) : Bool := (besT.all fun t => decide (PySem.W.subIn K (.type t) (.ref C) = some false)) && ((lacks.all fun m => eqO (PySem.W.findIn K (.ref C) m) (some none)) && eqO (PySem.W.findIn K (.ref C) "__ne__") (some (some (.builtin "object.__ne__"))))
def lotB3 (K : PySem.W.Frag) (C : Addr) : Bool := He5.wrapB K C "staticmethod" "staticmethod.__get__" "of" && (He5.wrapB K C "classmethod" "classmethod.__get__" "read" && (PySem.W.fnIn K (He5.wf K C "staticmethod" "of") && PySem.W.fnIn K (He5.wf K C "classmethod" "read")))
def lotB4 (K : PySem.W.Frag) (C : Addr) : Bool := mostB K && (PySem.W.readsIn K C (.type "type") && (eqO (PySem.W.specialIn K (.ref C) "__getattribute__") (some (some (.builtin "type.__getattribute__"))) && PySem.W.fnIn K (ma K C "__getitem__")))
def lotB5 (K : PySem.W.Frag) (C : Addr) : Bool := decide (PySem.W.kitOne K (.ref C) (.type "str") = some false) && (decide (PySem.W.kitOne K (.ref C) (.ref C) = some true) && (decide (PySem.W.kitAny K (.ref C) [.type "list", .type "tuple"] = some false) && (besT.all fun t => decide (PySem.W.kitOne K (.type t) (.ref C) = some false))))
def lotB (K : PySem.W.Frag) : Bool := lotB1 K (ga K "Lot") && (lotB2 K (ga K "Lot") && (lotB3 K (ga K "Lot") && (lotB4 K (ga K "Lot") && lotB5 K (ga K "Lot"))))
/-- what a note's class has not -/
def lackN : List Str := ["__iadd__", "__radd__"]
def objB1 (K : PySem.W.Frag) (C : Addr) : Bool := eqO (PySem.W.findIn K (.ref C) "__class__") (some (some (.builtin "object.__class__"))) && (decide (PySem.W.mroIn K C (.type "object") = some true) && (PySem.W.selfFirst K C && PySem.W.noSeq K C))
def noteB (K : PySem.W.Frag) : Bool := lotB1 K (ga K "Note") && ((besT.all fun t => decide (PySem.W.subIn K (.type t) (.ref (ga K "Note")) = some false)) && ((lackN.all fun m => eqO (PySem.W.findIn K (.ref (ga K "Note")) m) (some none)) && eqO (PySem.W.findIn K (.ref (ga K "Note")) "__ne__") (some (some (.builtin "object.__ne__")))))
def kitsB (K : PySem.W.Frag) : Bool := decide (PySem.W.kitOne K (.ref (ga K "Note")) (.ref (ga K "Note")) = some true) && (decide (PySem.W.kitOne K (.ref (ga K "Lot")) (.ref (ga K "Note")) = some false) && ((besT.all fun t => decide (PySem.W.kitOne K (.type t) (.ref (ga K "Note")) = some false)) &&
  (decide (PySem.W.kitOne K (.ref (ga K "Release")) (.ref (ga K "Release")) = some true) && (decide (PySem.W.kitOne K (.ref (ga K "Number")) (.ref (ga K "Number")) = some true) && ((["Lot", "Number"] : List Str).all fun x => decide (PySem.W.kitOne K (.ref (ga K x)) (.type "tuple") = some false) && decide (PySem.W.kitAny K (.ref (ga K x)) [.type "list", .type "dict"] = some false))))))
/-- what stands of Note, Number, Release -/
def relB (K : PySem.W.Frag) : Bool := noteB K && (kitsB K && (objB1 K (ga K "Number") && (objB1 K (ga K "Release") && ((He5.wrapB K (ga K "Note") "staticmethod" "staticmethod.__get__" "read" && PySem.W.fnIn K (He5.wf K (ga K "Note") "staticmethod" "read")) && (decide ((errsN.map fun q => ga K q.1).Nodup) && (["__add__", "__radd__"] : List Str).all fun m => eqO (PySem.W.findIn K (.ref (ga K "Lot")) m) (some none))))))
/-- the defs behind a static and a class method -/
def dAs : List He5.DefA := [⟨fun K => He5.wf K (ga K "Lot") "staticmethod" "of", "of", "Lot.of", defArgs (lSt 2), defBody (lSt 2), defScope (lSt 2), [], []⟩,
  ⟨fun K => He5.wf K (ga K "Lot") "classmethod" "read", "read", "Lot.read", defArgs (lSt 3), defBody (lSt 3), defScope (lSt 3), [], []⟩,
  ⟨fun K => He5.wf K (ga K "Note") "staticmethod" "read", "read", "Note.read", defArgs (nSt 1), defBody (nSt 1), defScope (nSt 1), [], []⟩]
def exS (K : PySem.W.Frag) : Bool := ((lotB K && relB K) && dAs.all fun d => d.ok K) && (apart K && bmB K (ma K (ga K "Words") "is_next") && objB K && (errsN.all fun q => errB K q.1 q.2) && (iniN.all fun q => iniE K q.1 q.2.2) && (errsN.all fun q => exmB K q.1 (.ref (ga K "EditionError")) true))
/-! ### the Hook, with the interpreter's own statics and defs at any address -/
/-- those of the addresses that are not seen yet, each once; what is seen is held as the bits of a number -/
def newB {β : Type} : List Addr → Nat → (List Addr → Nat → β) → β
  | [], s, k => k [] s
  | a :: r, s, k => match Nat.beq (Nat.land (Nat.shiftRight s a) 1) 0 with
    | true => newB r (Nat.lor s (Nat.shiftLeft 1 a)) fun n s' => k (a :: n) s'
    | false => newB r s k
def goB {β : Type} (g : Addr → Option Obj) : List Addr → Nat → (List Addr → Nat → β) → β
  | [], s, k => k [] s
  | a :: r, s, k => match g a with
    | some o => newB (He.refsD o) s fun n s' => goB g r s' fun m s2 => k (n ++ m) s2
    | none => goB g r s k
/-- what is reached in so many steps -/
def asB (g : Addr → Option Obj) : Nat → List Addr → Nat → List Addr
  | 0, fr, _ => fr
  | n + 1, fr, s => goB g fr s fun nw s' => fr ++ asB g n nw s'
def asY (g : Addr → Option Obj) (n : Nat) : List Addr := cStatics :: asB g n [mainGlobals] (Nat.shiftLeft 1 mainGlobals)
abbrev AlY : Type := AlX × List He5.FnW
def frY (n : Nat) (g : Addr → Option Obj) : PySem.W.Frag := He.frT g (asY g n)
def obsS (n : Nat) (g : Addr → Option Obj) : AlY := ((He.obsT fas fns [] (frY n g), exS (frY n g) && He.tabsB g tabN (frY n g)), dAs.map fun d => He5.fnA (frY n g) (d.at_ (frY n g)))
def valS (w : World) : AlY := (He.valX fns [] w, dAs.map He5.DefA.val)
structure SaysY (w : World) (h : Heap) (K : PySem.W.Frag) : Prop where
  x : He.SaysX fas fns [] tabN exS w h K
  y : (dAs.map fun d => He5.fnA K (d.at_ K)) = dAs.map He5.DefA.val
theorem says_fr {as : List Addr} {w : World} {h : Heap} (a : He.obsT fas fns [] (He.frT h.get? as) = He.valT fns [] w) (b : (exS (He.frT h.get? as) && He.tabsB h.get? tabN (He.frT h.get? as)) = true) : He.SaysX fas fns [] tabN exS w h (He.frT h.get? as) := by
  obtain ⟨b1, b2⟩ := ba b
  generalize hK : He.frT h.get? as = K at a b1 b2
  have at1 : ∀ p ∈ tabN, PySem.W.codeHdIn K (cT K p).1 (cT K p).2 = true ∧ ∃ u, h.get? (cT K p).2 = some u ∧ He.emptyTab u = true := by
    intro p hp
    obtain ⟨c1, c2⟩ := ba (List.all_eq_true.mp b2 p hp)
    refine ⟨c1, ?_⟩
    rcases e : h.get? (cT K p).2 with _ | u
    · rw [e] at c2
      exact nomatch c2
    · rw [e] at c2
      exact ⟨u, rfl, c2⟩
  constructor
  · exact a
  · exact b1
  · exact fun p hp => (at1 p hp).1
  · intro p hp
    obtain ⟨_, u, e, z⟩ := at1 p hp
    rw [← hK] at e ⊢
    exact He.frT_none e z
  · intro p hp
    obtain ⟨_, u, e, z⟩ := at1 p hp
    rw [e, He.emptyTab_eq z]
theorem saysY_of {n : Nat} {w : World} {h : Heap} (e : obsS n h.get? = valS w) : SaysY w h (frY n h.get?) :=
  ⟨says_fr (congrArg (fun z : AlY => z.1.1) e) (congrArg (fun z : AlY => z.1.2) e), congrArg (fun z : AlY => z.2) e⟩
theorem SaysY.keep {w : World} {h h' : Heap} {K : PySem.W.Frag} (c : SaysY w h K) (k : ∀ a o, h.get? a = some o → h'.get? a = some o) : SaysY w h' K :=
  ⟨⟨c.x.t, c.x.more, c.x.hd, c.x.out, fun p hp => k _ _ (c.x.empty p hp)⟩, c.y⟩
def hookS (n : Nat) : PySem.W.Hook where
  α := AlY
  obs := fun s => obsS n s.heap.get?
  val := fun w => valS w
  says := fun w h => ∃ K : PySem.W.Frag, K.In h ∧ SaysY w h K
  of := fun _ _ e => ⟨_, frT_in, saysY_of e⟩
  keeps := fun _ _ _ ⟨K, hK, c⟩ k => ⟨K, PySem.W.Frag.In.keeps hK k, c.keep k⟩
theorem obsS_eq {n : Nat} {g : Addr → Option Obj} {s : Shared} (h : ∀ a, g a = s.heap.get? a) : obsS n g = (hookS n).obs s := by
  rw [show g = s.heap.get? from funext h]
  rfl
end K6
set_option Elab.async false
set_option linter.all false
set_option maxRecDepth 100000
set_option maxHeartbeats 0
namespace K6
open PySem PySem.Spec PyProof.Rows L2 He EF
abbrev hkS : PySem.W.Hook := hookS 6
def obT (s : PySem.W.SharedT) : AlY := obsS 6 (HandSHeadRun.getT s)
theorem obT_eq (s : PySem.W.SharedT) : obT s = hkS.obs s.abs := obsS_eq (HandSHeadRun.getT_eq s)
def loose : List Str := (["_wall", "is_integer", "is_within", "is_fix", "EditionError", "BadInput", "NoAnswer", "BadFix", "BadLot", "BadNumber", "BadText", "BadWay", "TooMany", "Unlike", "number_of", "is_plain_number", "Words", "take_fix_behind", "take_fixes", "Lot"] : List Str) ++ (["LINES", "RELEASES", "is_open_to_change", "kept_value", "Paper", "is_number_word", "Number", "Release", "is_told", "note_of", "fixes_without", "can_follow", "Note", "_law_pen", "_law_draw", "_law_pick",
  "_law_heard", "_law_lot", "_law_fixes", "_law_row_right", "_law_sum_right"] : List Str)
theorem runS (w : World) : HandSHeadRun.RunEq R (PySem.W.view R.prog [49]) hkS obT 9500 loose w := by
  intro os
  kernel_rfl
end K6
set_option Elab.async false
set_option linter.all false
set_option maxRecDepth 100000
set_option maxHeartbeats 4000000
/-! What is known of a value all the way down, and repr of it. -/
namespace RV
open PySem PySem.Spec PyProof.Rows L2
def keyD : Key → PyData
  | .inl i => .int i
  | .inr x => .str x
mutual
/-- at v stands the datum d, all the way down -/
inductive Dat (H : Hp) : V → PyData → Prop
  | non : Dat H .non .none
  | bl (b : Bool) : Dat H (.bl b) (.bool b)
  | int (i : Int) : Dat H (.int i) (.int i)
  | str (x : Str) : Dat H (.str x) (.str x)
  | tup {a : Addr} {xs : List V} {ds : List PyData} : H a = some (.tup xs) → Dats H xs ds → Dat H (.ref a) (.tuple ds)
  | lst {a : Addr} {xs : List V} {ds : List PyData} : H a = some (.lst xs) → a ≠ sysModules → Dats H xs ds → Dat H (.ref a) (.list ds)
  | dic {a : Addr} {kvs : List (Key × V)} {kds : List (PyData × PyData)} : H a = some (.dK kvs) → kds.map (·.1) = kvs.map (fun q => keyD q.1) →
      Dats H (kvs.map (·.2)) (kds.map (·.2)) → Dat H (.ref a) (.dict kds)
inductive Dats (H : Hp) : List V → List PyData → Prop
  | nil : Dats H [] []
  | cons {x : V} {d : PyData} {xs : List V} {ds : List PyData} : Dat H x d → Dats H xs ds → Dats H (x :: xs) (d :: ds)
end
mutual
theorem Dat.same {H H' : Hp} (k : ∀ b o, H b = some o → H' b = some o) {v : V} {d : PyData} : Dat H v d → Dat H' v d
  | .non => .non
  | .bl b => .bl b
  | .int i => .int i
  | .str x => .str x
  | .tup e r => .tup (k _ _ e) (r.same k)
  | .lst e n r => .lst (k _ _ e) n (r.same k)
  | .dic e q r => .dic (k _ _ e) q (r.same k)
theorem Dats.same {H H' : Hp} (k : ∀ b o, H b = some o → H' b = some o) {xs : List V} {ds : List PyData} : Dats H xs ds → Dats H' xs ds
  | .nil => .nil
  | .cons r t => .cons (r.same k) (t.same k)
end
theorem vals_of_kv {kvs : List (Key × V)} {vs : List (Key × Value)} (r : KV kvs vs) : kvs.map (·.1) = vs.map (·.1) ∧ Vals (kvs.map (·.2)) (vs.map (·.2)) := by
  induction r with
  | nil => exact ⟨rfl, .nil⟩
  | cons h t ih => exact ⟨by rw [List.map_cons, List.map_cons, ih.1, h.1], .cons h.2 ih.2⟩
theorem pairs_of {P : Program} {w : World} {es : List DictEntry} {vs : List (Key × Value)} (r : Pairs (mixKind P w) es vs) (h : Heap) :
    (∃ as, ReadsAll h (es.map (·.key)) (vs.map fun q => keyD q.1) as ∧ as = []) ∧ es.map (·.val) = vs.map (·.2) := by
  induction r with
  | nil => exact ⟨⟨[], .nil, rfl⟩, rfl⟩
  | @cons e kv es kvs hk hv t ih =>
    obtain ⟨⟨as, ra, ha⟩, iv⟩ := ih
    subst ha
    refine ⟨⟨[], ?_, rfl⟩, by rw [List.map_cons, List.map_cons, hv, iv]⟩
    rw [List.map_cons, List.map_cons]
    rcases keyIs_shape (show keyIs kv.1 e.key = true from hk) with ⟨i, u, e1, e2⟩ | ⟨x, u, e1, e2⟩
    · rw [e1, e2]
      exact .cons (as := []) (bs := []) (.int i u) ra
    · rw [e1, e2]
      exact .cons (as := []) (bs := []) (.str x u) ra
mutual
theorem Dat.reads {P : Program} {w : World} {H : Hp} {h : Heap} (ok : HOk P w H h) {v : V} {d : PyData} {u : Value} : Dat H v d → RelV v u → ∃ as, Reads h u d as ∧ sysModules ∉ as
  | .non, r => by
    cases (show u = Value.none from r)
    exact ⟨[], .none, by simp⟩
  | .bl b, r => by
    cases (show u = Value.bool b from r)
    exact ⟨[], .bool b, by simp⟩
  | .int i, r => by
    obtain ⟨t, rfl⟩ := (show ∃ t, u = Value.int i t from r)
    exact ⟨[], .int i t, by simp⟩
  | .str x, r => by
    obtain ⟨t, rfl⟩ := (show ∃ t, u = Value.str x t from r)
    exact ⟨[], .str x t, by simp⟩
  | .tup (a := a) (xs := xs) e q, r => by
    cases (show u = Value.ref a from r)
    obtain ⟨_, its, rv, o, h1, h2, n, h3⟩ := (show ObjOk P w H h a (.tup xs) from ok a _ e)
    obtain ⟨as, ra, na⟩ := q.reads ok rv
    exact ⟨as, .tuple h1 h2 h3 ra, na⟩
  | .lst (a := a) (xs := xs) e n q, r => by
    cases (show u = Value.ref a from r)
    obtain ⟨_, its, m, rv, h1⟩ := (show ObjOk P w H h a (.lst xs) from ok a _ e)
    obtain ⟨as, ra, na⟩ := q.reads ok rv
    exact ⟨a :: as, .list h1 rfl rfl ra, fun z => by
      rcases List.mem_cons.mp z with z | z
      · exact n z.symm
      · exact na z⟩
  | .dic (a := a) (kvs := kvs) (kds := kds) e q t, r => by
    cases (show u = Value.ref a from r)
    obtain ⟨_, hs, vs, rk, o, es, ep, h1, h2, h3, _, h5, _⟩ := (show ObjOk P w H h a (.dK kvs) from ok a _ e)
    obtain ⟨k1, k2⟩ := vals_of_kv rk
    obtain ⟨⟨as, ra, ha⟩, iv⟩ := pairs_of h5 h
    obtain ⟨bs, rb, nb⟩ := t.reads ok k2
    subst ha
    refine ⟨a :: [] ++ bs, .dict h1 h2.1 h3 (as := []) (bs := bs) ?_ ?_, fun z => ?_⟩
    · have e2 : kds.map (·.1) = vs.map fun q => keyD q.1 := by
        rw [q, show (kvs.map fun q => keyD q.1) = (kvs.map (·.1)).map keyD by rw [List.map_map]; rfl, k1, List.map_map]
        rfl
      rw [e2]
      exact ra
    · rw [iv]
      exact rb
    · rcases List.mem_cons.mp z with z | z
      · exact (beq_eq_false_iff_ne.mp hs) z.symm
      · exact nb z
theorem Dats.reads {P : Program} {w : World} {H : Hp} {h : Heap} (ok : HOk P w H h) {xs : List V} {ds : List PyData} {us : List Value} : Dats H xs ds → Vals xs us → ∃ as, ReadsAll h us ds as ∧ sysModules ∉ as
  | .nil, r => by
    cases r
    exact ⟨[], .nil, by simp⟩
  | .cons q t, r => by
    cases r with
    | cons r1 r2 =>
      obtain ⟨as, ra, na⟩ := q.reads ok r1
      obtain ⟨bs, rb, nb⟩ := t.reads ok r2
      exact ⟨as ++ bs, .cons ra rb, fun z => (List.mem_append.mp z).elim na nb⟩
end
/-- repr of a container -/
def rRepr : List V → Hp → VK → Prop := fun xs H Q => ∃ a d, xs = [.ref a] ∧ Dat H (.ref a) d ∧ d.showable = true ∧ d.depth ≤ 20 ∧ d.shown.length ≤ sizeLine ∧ Q (.str d.shown) H
theorem call_repr {X : Cx} (hg : X.A.guards = some []) (hu : X.A.units + 64 < cLine) : CallR X (.builtin "repr") rRepr := by
  intro pins s σ H xs us Q I r h
  obtain ⟨a, d, rfl, D, hs, hd, hz, q⟩ := h
  cases r with
  | cons r1 r2 =>
    cases r2
    obtain ⟨as, ra, na⟩ := D.reads I.hok r1
    cases (show _ = Value.ref a from r1)
    exact repr_of_reads' ra hs (fun _ => na) hg (by omega) (fun _ _ e => e) (fun h' u tk k => ⟨.str d.shown, H, I.kept (t' := tk) k, ⟨_, rfl⟩, q⟩) hz
/-- a list display: the new list is not the table of modules -/
theorem pe_lst1 {X : Cx} {es : List Expr} {t : TA} {pos : Pos} (h : PA X es t) :
    PE X (.List es pos) (fun σ H Q => t σ H fun xs H1 => xs.length ≤ sizeLine ∧ ∀ p, H1 p = none → p ≠ sysModules → Q (.ref p) (upd H1 p (.lst xs))) := by
  refine ⟨fun pins s σ H Q I hq => ?_⟩
  refine wpAny_List_spliced (thn (h.run pos pins s σ H _ I hq) fun us s1 ⟨xs, H1, I1, r, z, q⟩ => ⟨by rw [← r.length]; exact z, ?_⟩)
  refine ⟨.ref s1.heap.objs.size, _, I1.laid (t' := s1.toks) (o := .lst xs) (fun b u e => Heap.get?_push_of_some _ e) (Nat.le_refl _) ⟨z, us, 0, r, Heap.get?_push_size _ rfl⟩, rfl,
    q _ (I1.hok.fresh (Nat.le_refl _)) (Nat.ne_of_gt I1.big)⟩
/-- a list so many times -/
def rMulL : R2 := fun x y H Q => ∃ l k xs, x = .ref l ∧ y = .int k ∧ H l = some (.lst xs) ∧ xs ≠ [] ∧ 0 ≤ k ∧ k ≤ 1000 ∧ xs.length ≤ 1000 ∧
  ∀ p, H p = none → p ≠ sysModules → Q (.ref p) (upd H p (.lst (List.replicate k.toNat xs).flatten))
theorem op_mulL {X : Cx} : OpR X (binaryOp .Mult) rMulL := by
  intro pins s σ H x y v u Q I rx ry h
  obtain ⟨l, k, xs, rfl, rfl, hT, hne, h1, h2, hz, q⟩ := h
  cases rx
  obtain ⟨t, rfl⟩ := ry
  obtain ⟨_, its, n, r, ho⟩ := (show ObjOk X.prog X.w H s.heap l (.lst xs) from I.hok l _ hT)
  have hle : its.length = xs.length := r.length.symm
  have hi : its.toArray.isEmpty = false := by
    cases its with
    | nil => exact absurd (List.eq_nil_of_length_eq_zero hle.symm) hne
    | cons a b => rfl
  have hm : xs.length * k.toNat ≤ 1000 * 1000 := Nat.mul_le_mul hz (by omega)
  have hsz : its.toArray.size = xs.length := by rw [List.size_toArray, hle]
  refine wpAny_binaryOp_repeat_ref (T := "list") (U := "int") (by decide) ⟨_, ho, rfl⟩ (fun s' => typeIs_int s' k t) noFill_list_mul F.fills_int_mul F.slot_int_rmul repeat_list F.slot_int_index.lookup
    (call_meets F.slot_int_rmul (typeIs_int s k t) F.entry_int_rmul (F.args_int_rmul_2 _ _) (int___rmul___int_list k t l its.toArray n)
      ⟨ho, rfl, ⟨_, ho, rfl⟩, call_meets F.slot_list_mul ⟨_, ho, rfl⟩ F.entry_list_mul (F.args_list_mul_2 _ _)
        (AutoListH.list___mul___list_int_3 l its.toArray n k t (by simp [Builtin.List.listFitsIndex]; omega) (by rw [hsz]; omega) (by rw [hsz]; simp [Builtin.List.listTooLong, sizeLine]; omega)) ⟨ho, ?_⟩⟩)
  rw [hi, if_neg Bool.false_ne_true, size_rep]
  refine ⟨.ref s.heap.objs.size, _, I.laid (t' := s.toks) (o := .lst (List.replicate k.toNat xs).flatten) (fun b ob q => Heap.get?_push_of_some _ q) (Nat.le_refl _) ?_, rfl, q _ (I.hok.fresh (Nat.le_refl _)) (Nat.ne_of_gt I.big)⟩
  refine ⟨?_, _, 0, r.rep k.toNat, Heap.get?_push_size _ rfl⟩
  rw [PyProof.Rows.lm_len_rep_flat, sizeLine_eq]
  have := Nat.mul_comm k.toNat xs.length
  omega
end RV
set_option Elab.async false
set_option linter.all false
set_option maxRecDepth 100000
set_option maxHeartbeats 4000000
/-! The draws of the law: the pen, a draw, a pick. -/
namespace K6
open PySem PySem.Spec PyProof.Rows L2
abbrev sPen : Stmt := top 41
abbrev sDraw : Stmt := top 42
abbrev sPick : Stmt := top 43
abbrev FnP (K : PySem.W.Frag) (x : Str) (st : Stmt) (f : Addr) (fd : FuncData) : Prop := FunD K x x (defArgs st) (defBody st) (defScope st) [] [] f fd
/-- a pen at p: its cells at a, how many were taken, what is left of a great one -/
structure Pen (H : Hp) (p a : Addr) (cs : List Int) (b g : Int) : Prop where
  pn : H p = some (.lst [.ref a, .int b, .int g])
  ce : H a = some (.lst (cs.map V.int))
  b0 : 0 ≤ b
  g0 : 0 ≤ g
  ln : cs.length ≤ 63
theorem Pen.ne {H : Hp} {p a : Addr} {cs : List Int} {b g : Int} (P : Pen H p a cs b g) : a ≠ p := fun e => by
  have z := P.ce
  rw [e, P.pn] at z
  cases cs with
  | nil => cases z
  | cons c cs => cases z
def spDraw : Sp := fun vs H Q _ => ∃ (p a : Addr) (cs : List Int) (b g many : Int), vs = [.ref p, .int many] ∧ Pen H p a cs b g ∧ b ≤ 1000 ∧ 0 < many ∧ many < 1000 ∧
  ∀ (r b' g' : Int) (H' : Hp), 0 ≤ r → r < many → b' ≤ b + 1 → Pen H' p a cs b' g' → (∀ c o, c ≠ p → H c = some o → H' c = some o) → Q (.int r) H'
/-- the built-ins that are still themselves -/
structure Blt (mg : Str → Option Value) : Prop where
  int : mg "int" = none
  len : mg "len" = none
  abs : mg "abs" = none
  list : mg "list" = none
section
variable {P : Program} {w : World} {K : PySem.W.Frag} {mg : Str → Option Value} {base : Heap} {f : Addr} {fd : FuncData}
theorem scDraw : FnScope ["_law_pen_here", "_law_many", "_law_digit", "_law_lap", "_law_cell", "_law_great", "_law_stir"] ["_law_pen_here", "_law_many"] (defScope sDraw) :=
  ⟨rfl, rfl, rfl, by decide +kernel, rfl, by decide +kernel, by decide +kernel⟩
theorem canLay_ints (cs : List Int) : PyData.canLayAll0 (cs.map PyData.int) = true := by
  induction cs with
  | nil => rfl
  | cons c cs ih => simp [PyData.canLayAll0, PyData.canLay0, ih]
theorem depth_ints (cs : List Int) : PyData.depthAll (cs.map PyData.int) = 0 := by
  induction cs with
  | nil => rfl
  | cons c cs ih => simp [PyData.depthAll, PyData.depth, ih]
theorem shaped_ints (cs : List Int) : SeqAt.shaped (.list (cs.map .int)) = true := by
  simp [SeqAt.shaped, PyData.canLay0, PyData.depth, canLay_ints, depth_ints]
theorem dp_ints {K : PySem.W.Frag} {H : Hp} (cs : List Int) : DpAll K H (cs.map V.int) (cs.map PyData.int) := by
  induction cs with
  | nil => exact .nil
  | cons c cs ih => exact .cons (.int c) ih
theorem great0 {R many : Int} (h : decide ((10 : Int) ^ Int.toNat 18 ≤ if R < 0 then -R else R) = true) (hm : 0 < many) :
    0 ≤ (2 * ((if R < 0 then -R else R) - (10 : Int) ^ Int.toNat 18) + if decide (R < 0) = true then 1 else 0) / many := by
  have h2 := of_decide_eq_true h
  refine Int.ediv_nonneg ?_ (by omega)
  split <;> omega
theorem cpow5 (R : Int) {b : Int} (h0 : 0 ≤ b) (h1 : b ≤ 1000) : CPow (R % 2147483579 + 6443 * b + 3059) 5 := by
  have a1 := Int.emod_nonneg R (show (2147483579 : Int) ≠ 0 by decide)
  have a2 := Int.emod_lt_of_pos R (show (0 : Int) < 2147483579 by decide)
  refine ⟨by decide, by decide, ?_⟩
  omega
theorem cmul1 (x y : Int) : CMul (x % 2147483629) y := by
  have a1 := Int.emod_nonneg x (show (2147483629 : Int) ≠ 0 by decide)
  have a2 := Int.emod_lt_of_pos x (show (0 : Int) < 2147483629 by decide)
  exact .inl ⟨by omega, by omega⟩
theorem cpow3 (x : Int) {b : Int} (h0 : 0 ≤ b) (h1 : b ≤ 1000) : CPow (x % 2147483629 * (2 * b + 509) + 43461 * b * b + 92221) 3 := by
  have a1 := Int.emod_nonneg x (show (2147483629 : Int) ≠ 0 by decide)
  have a2 := Int.emod_lt_of_pos x (show (0 : Int) < 2147483629 by decide)
  have b1 : x % 2147483629 * (2 * b + 509) ≤ 2147483629 * (2 * b + 509) := Int.mul_le_mul_of_nonneg_right (by omega) (by omega)
  have b2 : 0 ≤ x % 2147483629 * (2 * b + 509) := Int.mul_nonneg a1 (by omega)
  have b3 : 43461 * b * b ≤ 43461 * b * 1000 := Int.mul_le_mul_of_nonneg_left h1 (by omega)
  have b4 : 0 ≤ 43461 * b * b := Int.mul_nonneg (by omega) h0
  refine ⟨by decide, by decide, ?_⟩
  omega
theorem ok_draw (F : FnP K "_law_draw" sDraw f fd) (T : Blt mg) : FnOk P w K mg base CX0 1 f fd ["_law_pen_here", "_law_many"] spDraw := by
  refine F.ok scDraw (fun vs H Q E h => ?_) (fun cdv A outer s H vs Q E hr h => ?_)
  · obtain ⟨p, a, cs, b, g, many, rfl, _⟩ := h
    rfl
  · obtain ⟨p, a, cs, b, g, many, rfl, N, hb, hm0, hm1, k⟩ := h
    have hu := hr.units
    refine ⟨_, PSs.nox (pss_cons (ps_if (pt_cmpR op_gt (pe_ix ix_list (pv 0) pe_int (fun _ _ => rfl)) pe_int (nomark _))
        (pss_cons (ps_set (i := 2) scDraw.nd rfl (.inl rfl) (pe_op op_mod (pe_callTy call_int1 (by rfl) T.int boot_int (pa_cons (pe_ix ix_list (pv 0) pe_int (fun _ _ => rfl)) pa_nil)) (pv 1)))
        (pss_cons (ps_asg (pe_op op_fdiv (pe_callTy call_int1 (by rfl) T.int boot_int (pa_cons (pe_ix ix_list (pv 0) pe_int (fun _ _ => rfl)) pa_nil)) (pv 1)) (pg_sub (pv 0) pe_int set_list))
        (pss_one (ps_ret (pv 2))))) pss_nil)
      (pss_cons (ps_set (i := 3) scDraw.nd rfl (.inl rfl) (pe_ix ix_list (pv 0) pe_int (fun _ _ => rfl)))
      (pss_cons (ps_asg (pe_op op_add (pv 3) pe_int) (pg_sub (pv 0) pe_int set_list))
      (pss_cons (ps_set (i := 4) scDraw.nd rfl (.inl rfl) (pe_op op_add (pe_op op_mul pe_int (pv 3)) pe_int))
      (pss_cons (ps_if (pt_cmpR (op_neD hu) (pe_ix ix_list (pv 0) pe_int (fun _ _ => rfl)) (pe_lst pa_nil) (nomark _))
        (pss_one (ps_set (i := 4) scDraw.nd rfl (.inl rfl) (pe_ix ix_list (pe_ix ix_list (pv 0) pe_int (fun _ _ => rfl))
          (pe_op op_mod (pe_callTy call_int1 (by rfl) T.int boot_int (pa_cons (pv 3) pa_nil)) (pe_callB call_len_seq (by rfl) T.len PySem.boot_len (pa_cons (pe_ix ix_list (pv 0) pe_int (fun _ _ => rfl)) pa_nil))) (fun _ _ => rfl)))) pss_nil)
      (pss_cons (ps_if (PW.pt (pw_and (pt_cmpR op_lt (pv 3) (pe_callB call_len_seq (by rfl) T.len PySem.boot_len (pa_cons (pe_ix ix_list (pv 0) pe_int (fun _ _ => rfl)) pa_nil)) (nomark _))
          (pw_and1 (pt_cmpR op_ge (pe_callB call_abs (by rfl) T.abs boot_abs (pa_cons (pv 4) pa_nil)) (pe_op op_pow pe_int pe_int) (nomark _)))))
        (pss_cons (ps_set (i := 5) scDraw.nd rfl (.inl rfl) (pe_op op_add (pe_op op_mul pe_int (pe_op op_sub (pe_callB call_abs (by rfl) T.abs boot_abs (pa_cons (pv 4) pa_nil)) (pe_op op_pow pe_int pe_int)))
            (pe_callTy call_int1 (by rfl) T.int boot_int (pa_cons (pe_cmpR op_lt (pv 4) pe_int (nomark _)) pa_nil))))
        (pss_cons (ps_asg (pe_op op_fdiv (pe_callTy call_int1 (by rfl) T.int boot_int (pa_cons (pv 5) pa_nil)) (pv 1)) (pg_sub (pv 0) pe_int set_list))
        (pss_one (ps_ret (pe_op op_mod (pe_callTy call_int1 (by rfl) T.int boot_int (pa_cons (pv 5) pa_nil)) (pv 1)))))) pss_nil)
      (pss_cons (ps_set (i := 6) scDraw.nd rfl (.inl rfl) (pe_op op_mod (pe_callTy call_int1 (by rfl) T.int boot_int (pa_cons (pe_op op_pow (pe_op op_add (pe_op op_add
          (pe_op op_mod (pe_callTy call_int1 (by rfl) T.int boot_int (pa_cons (pv 4) pa_nil)) pe_int) (pe_op op_mul pe_int (pv 3))) pe_int) pe_int) pa_nil)) pe_int))
      (pss_cons (ps_set (i := 6) scDraw.nd rfl (.inl rfl) (pe_op op_mod (pe_callTy call_int1 (by rfl) T.int boot_int (pa_cons (pe_op op_pow (pe_op op_add (pe_op op_add
          (pe_op op_mul (pv 6) (pe_op op_add (pe_op op_mul pe_int (pv 3)) pe_int)) (pe_op op_mul (pe_op op_mul pe_int (pv 3)) (pv 3))) pe_int) pe_int) pa_nil)) pe_int))
      (pss_one (ps_ret (pe_op op_mod (pe_callTy call_int1 (by rfl) T.int boot_int (pa_cons (pe_op op_fdiv (pv 6) pe_int) pa_nil)) (pv 1)))))))))))), ?_⟩
    refine ⟨_, rfl, p, _, _, _, rfl, rfl, SqL.of N.pn, atI_nat (j := 2) rfl, _, _, rfl, rfl, _, rfl, ?_⟩
    refine ite2 (fun hg => ?_) (fun hg => ?_)
    · refine ⟨_, rfl, p, _, _, _, rfl, rfl, SqL.of N.pn, atI_nat (j := 2) rfl, .inl ⟨_, rfl, _, rfl, _, _, rfl, rfl, hm0, ?_⟩⟩
      refine ⟨_, rfl, p, _, _, _, rfl, rfl, SqL.of N.pn, atI_nat (j := 2) rfl, .inl ⟨_, rfl, _, rfl, _, _, rfl, rfl, ⟨hm0, by omega⟩, _, rfl, p, _, _, _, rfl, rfl, N.pn, rfl, ?_⟩⟩
      refine ⟨_, rfl, k (g % many) b (g / many) _ (Int.emod_nonneg _ (by omega)) (Int.emod_lt_of_pos _ hm0) (by omega)
        ⟨upd_same, by rw [upd_ne N.ne]; exact N.ce, N.b0, Int.ediv_nonneg N.g0 (by omega), N.ln⟩ fun c o hc e => by rw [upd_ne hc]; exact e⟩
    · refine ⟨_, rfl, p, _, _, _, rfl, rfl, SqL.of N.pn, atI_nat (j := 1) rfl, ?_⟩
      refine ⟨_, rfl, _, _, rfl, rfl, _, rfl, p, _, _, _, rfl, rfl, N.pn, rfl, ?_⟩
      have N1 : Pen (upd H p (.lst [.ref a, .int (b + 1), .int g])) p a cs (b + 1) g :=
        ⟨upd_same, by rw [upd_ne N.ne]; exact N.ce, by have := N.b0; omega, N.g0, N.ln⟩
      refine ⟨_, rfl, _, _, rfl, rfl, .inl ⟨by decide, by decide⟩, _, _, rfl, rfl, ?_⟩
      refine ⟨_, rfl, p, _, _, _, rfl, rfl, SqL.of N1.pn, atI_nat (j := 0) rfl, Nat.zero_le _, fun q hq => ?_⟩
      have qp : p ≠ q := ne_of_none N1.pn hq
      have qa : a ≠ q := ne_of_none N1.ce hq
      have N2 : Pen (upd (upd H p (.lst [.ref a, .int (b + 1), .int g])) q (.lst [])) p a cs (b + 1) g :=
        ⟨by rw [upd_ne qp]; exact N1.pn, by rw [upd_ne qa]; exact N1.ce, N1.b0, N1.g0, N1.ln⟩
      have keep2 : ∀ c o, c ≠ p → H c = some o → upd (upd H p (.lst [.ref a, .int (b + 1), .int g])) q (.lst []) c = some o := fun c o hc e => by
        have e1 : upd H p (.lst [.ref a, .int (b + 1), .int g]) c = some o := by rw [upd_ne hc]; exact e
        rw [upd_ne (ne_of_none e1 hq)]
        exact e1
      refine ⟨.list (cs.map .int), .list [], .lst (SqL.of N2.ce) (dp_ints cs), .lst (SqL.of upd_same) .nil, shaped_ints cs, by decide, _, rfl, ?_⟩
      have two : (PyData.list (cs.map .int)).eqv (.list []) = true ∨ ((PyData.list (cs.map .int)).eqv (.list []) = false ∧ ∃ c, atI (cs.map V.int) (b % ((cs.map V.int).length : Int)) = some (.int c) ∧ (0 : Int) < ((cs.map V.int).length : Int)) := by
        cases cs with
        | nil => exact .inl rfl
        | cons c0 cs =>
          refine .inr ⟨rfl, ?_⟩
          have hl : (0 : Int) < (((c0 :: cs).map V.int).length : Int) := by rw [List.length_map, List.length_cons]; omega
          obtain ⟨j, hj⟩ := Int.eq_ofNat_of_zero_le (Int.emod_nonneg b (Int.ne_of_gt hl))
          have hlt := Int.emod_lt_of_pos b hl
          have hj2 : j < (c0 :: cs).length := by rw [hj, List.length_map] at hlt; exact Int.ofNat_lt.mp hlt
          refine ⟨(c0 :: cs)[j], ?_, hl⟩
          rw [hj]
          refine atI_nat ?_
          rw [List.getElem?_map, List.getElem?_eq_getElem hj2]
          rfl
      show if (!(PyData.list (cs.map .int)).eqv (.list [])) = true then _ else _
      rcases two with e | ⟨e, c, hc, hl⟩
      case' inl =>
        rw [e]
        refine iteF ?_
      case' inr =>
        rw [e]
        refine iteT ?_
        refine ⟨_, rfl, p, _, _, _, rfl, rfl, SqL.of N2.pn, atI_nat (j := 0) rfl, _, rfl, .inl ⟨_, rfl, _, rfl, p, _, _, _, rfl, rfl, SqL.of N2.pn, atI_nat (j := 0) rfl, a, _, rfl, .inl (SqL.of N2.ce), _, _, rfl, rfl, hl, a, _, _, _, rfl, rfl, SqL.of N2.ce, hc, ?_⟩⟩
      all_goals
        refine ⟨_, rfl, _, rfl, p, _, _, _, rfl, rfl, SqL.of N2.pn, atI_nat (j := 0) rfl, a, _, rfl, .inl (SqL.of N2.ce), _, _, rfl, rfl, _, rfl, ?_⟩
        refine ite2 (fun h1 => ?_) (fun h1 => ?_)
        · refine ⟨_, rfl, _, rfl, _, _, rfl, rfl, ⟨by decide, by decide, by decide⟩, _, _, rfl, rfl, _, rfl, ?_⟩
          refine ite2 (fun h2 => ?_) (fun h2 => ?_)
          · refine ⟨_, rfl, _, rfl, _, _, rfl, rfl, ⟨by decide, by decide, by decide⟩, _, _, rfl, rfl, _, _, rfl, rfl, .inl ⟨by decide, by decide⟩, _, rfl, _, _, rfl, rfl, .inr ⟨_, rfl, _, _, rfl, rfl, ?_⟩⟩
            refine ⟨_, rfl, .inl ⟨_, rfl, _, rfl, _, _, rfl, rfl, ⟨hm0, by omega⟩, _, rfl, p, _, _, _, rfl, rfl, N2.pn, rfl, ?_⟩⟩
            refine ⟨_, rfl, .inl ⟨_, rfl, _, rfl, _, _, rfl, rfl, hm0, ?_⟩⟩
            refine k _ (b + 1) _ _ (Int.emod_nonneg _ (by omega)) (Int.emod_lt_of_pos _ hm0) (by omega)
              ⟨upd_same, by rw [upd_ne N2.ne]; exact N2.ce, N2.b0, great0 h2 hm0, N2.ln⟩ fun c o hc e => by rw [upd_ne hc]; exact keep2 c o hc e
          · refine ⟨_, rfl, .inl ⟨_, rfl, _, _, rfl, rfl, (by show (0 : Int) < _; decide), _, rfl, _, _, rfl, rfl, .inl ⟨by decide, by decide⟩, _, _, rfl, rfl, _, _, rfl, rfl, _, _, rfl, rfl, cpow5 _ N.b0 hb, .inl ⟨_, rfl, _, _, rfl, rfl, (by show (0 : Int) < _; decide), ?_⟩⟩⟩
            refine ⟨_, rfl, _, rfl, _, _, rfl, rfl, .inl ⟨by decide, by decide⟩, _, _, rfl, rfl, _, _, rfl, rfl, cmul1 _ _, _, rfl, _, _, rfl, rfl, .inl ⟨by decide, by decide⟩, _, rfl, _, _, rfl, rfl, .inr ⟨by have := N.b0; omega, by omega⟩, _, _, rfl, rfl, _, _, rfl, rfl, _, _, rfl, rfl, cpow3 _ N.b0 hb, .inl ⟨_, rfl, _, _, rfl, rfl, (by show (0 : Int) < _; decide), ?_⟩⟩
            refine ⟨_, rfl, _, _, rfl, rfl, ⟨by decide, by decide⟩, .inl ⟨_, rfl, _, rfl, _, _, rfl, rfl, hm0, ?_⟩⟩
            exact k _ (b + 1) g _ (Int.emod_nonneg _ (by omega)) (Int.emod_lt_of_pos _ hm0) (by omega) N2 keep2
        · refine ⟨_, rfl, .inl ⟨_, rfl, _, _, rfl, rfl, (by show (0 : Int) < _; decide), _, rfl, _, _, rfl, rfl, .inl ⟨by decide, by decide⟩, _, _, rfl, rfl, _, _, rfl, rfl, _, _, rfl, rfl, cpow5 _ N.b0 hb, .inl ⟨_, rfl, _, _, rfl, rfl, (by show (0 : Int) < _; decide), ?_⟩⟩⟩
          refine ⟨_, rfl, _, rfl, _, _, rfl, rfl, .inl ⟨by decide, by decide⟩, _, _, rfl, rfl, _, _, rfl, rfl, cmul1 _ _, _, rfl, _, _, rfl, rfl, .inl ⟨by decide, by decide⟩, _, rfl, _, _, rfl, rfl, .inr ⟨by have := N.b0; omega, by omega⟩, _, _, rfl, rfl, _, _, rfl, rfl, _, _, rfl, rfl, cpow3 _ N.b0 hb, .inl ⟨_, rfl, _, _, rfl, rfl, (by show (0 : Int) < _; decide), ?_⟩⟩
          refine ⟨_, rfl, _, _, rfl, rfl, ⟨by decide, by decide⟩, .inl ⟨_, rfl, _, rfl, _, _, rfl, rfl, hm0, ?_⟩⟩
          exact k _ (b + 1) g _ (Int.emod_nonneg _ (by omega)) (Int.emod_lt_of_pos _ hm0) (by omega) N2 keep2
end
open RV
theorem same_new {H : Hp} {p : Addr} {o : HO} (n : H p = none) : Same H (upd H p o) := fun b u e => by
  rw [upd_ne (ne_of_none e n)]
  exact e
theorem Pen.same {H H' : Hp} {p a : Addr} {cs : List Int} {b g : Int} (P : Pen H p a cs b g) (k : Same H H') : Pen H' p a cs b g :=
  ⟨k _ _ P.pn, k _ _ P.ce, P.b0, P.g0, P.ln⟩
/-- a heap without p -/
def mn (H : Hp) (p : Addr) : Hp := fun c => if c = p then none else H c
theorem mn_same {H : Hp} {p : Addr} : mn H p p = none := if_pos rfl
theorem mn_ne {H : Hp} {p c : Addr} (h : c ≠ p) : mn H p c = H c := if_neg h
theorem mn_at {H : Hp} {p c : Addr} {o u : HO} (hp : H p = some u) (hc : H c = some o) (d : o ≠ u) : mn H p c = some o := by
  rw [mn_ne (ne_of hc hp d)]
  exact hc
theorem _root_.RV.Dats.mem {H : Hp} {xs : List V} {ds : List PyData} (r : Dats H xs ds) {x : V} (hx : x ∈ xs) : ∃ d ∈ ds, Dat H x d := by
  induction xs generalizing ds with
  | nil => cases hx
  | cons y ys ih =>
    cases r with
    | @cons _ d _ ds r1 r2 =>
      rcases List.mem_cons.mp hx with e | e
      · exact ⟨d, List.mem_cons_self, by rw [e]; exact r1⟩
      · obtain ⟨d', h1, h2⟩ := ih r2 e
        exact ⟨d', List.mem_cons_of_mem _ h1, h2⟩
def spPen (K : PySem.W.Frag) : Sp := fun vs H Q _ => ∃ (s : Addr) (ns : List Int), vs = [.ref s] ∧ SqL K H s (ns.map V.int) ∧ ns.length ≤ 63 ∧
  ∀ (p a : Addr) (cs : List Int) (H' : Hp), Pen H' p a cs 0 0 → Same H H' → Q (.ref p) H'
def spPick : Sp := fun vs H Q _ => ∃ (p a l : Addr) (cs : List Int) (b g : Int) (xs : List V), vs = [.ref p, .ref l] ∧ Pen H p a cs b g ∧ b ≤ 1000 ∧ l ≠ p ∧ H l = some (.lst xs) ∧
  xs ≠ [] ∧ xs.length < 1000 ∧
  ∀ (x : V) (b' g' : Int) (H' : Hp), x ∈ xs → b' ≤ b + 1 → Pen H' p a cs b' g' → (∀ c o, c ≠ p → H c = some o → H' c = some o) → Q x H'
section
variable {P : Program} {w : World} {K : PySem.W.Frag} {mg : Str → Option Value} {base : Heap} {f fD : Addr} {fd fdD : FuncData}
theorem scPen : FnScope ["_law_script"] ["_law_script"] (defScope sPen) := ⟨rfl, rfl, rfl, by decide +kernel, rfl, by decide +kernel, by decide +kernel⟩
theorem cut_ints (ns : List Int) (lo hi : Option Int) : ∃ cs : List Int, cutV (ns.map V.int) lo hi = cs.map V.int ∧ cs.length ≤ ns.length := by
  refine ⟨(ns.drop (HT.sIx (ns.map V.int).length 0 lo)).take (HT.sIx (ns.map V.int).length (ns.map V.int).length hi - HT.sIx (ns.map V.int).length 0 lo), ?_, ?_⟩
  · rw [List.map_take, List.map_drop]
    rfl
  · rw [List.length_take, List.length_drop]
    omega
theorem ok_pen (F : FnP K "_law_pen" sPen f fd) (T : Blt mg) : FnOk P w K mg base CX0 1 f fd ["_law_script"] (spPen K) := by
  refine F.ok scPen (fun vs H Q E h => ?_) (fun cdv A outer s H vs Q E hr h => ?_)
  · obtain ⟨a, ns, rfl, _⟩ := h
    rfl
  · obtain ⟨a, ns, rfl, hS, hl, k⟩ := h
    refine ⟨_, PSs.nox (pss_one (ps_ret (pe_lst (pa_cons (pe_callTy call_list_of (by rfl) T.list boot_list (pa_cons (pe_slice sl_list (pv 0) po_none (po_some pe_int)) pa_nil)) (pa_cons pe_int (pa_cons pe_int pa_nil)))))), ?_⟩
    obtain ⟨cs, e, hc⟩ := cut_ints ns none (some 63)
    refine ⟨_, rfl, _, rfl, a, _, rfl, hS, fun q hq => ?_⟩
    rw [e]
    refine ⟨q, _, rfl, .inl (SqL.of upd_same), fun r hr' => ⟨(by show 3 ≤ sizeLine; decide), fun p hp => ?_⟩⟩
    have n1 := ne_of_none (upd_same (H := upd H q (.lst (cs.map V.int))) (a := r) (o := .lst (cs.map V.int))) hp
    refine k p r cs _ ⟨upd_same, by rw [upd_ne n1, upd_same], Int.le_refl _, Int.le_refl _, by omega⟩ ((same_new hq).trans ((same_new hr').trans (same_new hp)))
theorem scPick : FnScope ["_law_pen_here", "_law_some"] ["_law_pen_here", "_law_some"] (defScope sPick) := ⟨rfl, rfl, rfl, by decide +kernel, rfl, by decide +kernel, by decide +kernel⟩
theorem ok_pick (F : FnP K "_law_pick" sPick f fd) (T : Blt mg) (FD : FnP K "_law_draw" sDraw fD fdD) (gD : mg "_law_draw" = some (.ref fD)) :
    FnOk P w K mg base CX0 2 f fd ["_law_pen_here", "_law_some"] spPick := by
  have GD : FnOk P w K mg base CX0 1 fD fdD ["_law_pen_here", "_law_many"] spDraw := ok_draw FD T
  have bD : Binds K fdD ["_law_pen_here", "_law_many"] [] := FD.bindsN fun _ _ _ _ _ _ us hl => match us, hl with | [_, _], _ => rfl
  refine F.ok scPick (fun vs H Q E h => ?_) (fun cdv A outer s H vs Q E hr h => ?_)
  · obtain ⟨p, a, l, cs, b, g, xs, rfl, _⟩ := h
    rfl
  · obtain ⟨p, a, l, cs, b, g, xs, rfl, N, hb, nl, hL, hx, hz, k⟩ := h
    refine ⟨_, PSs.nox (pss_one (ps_ret (pe_ix ix_list (pv 1) (pe_call GD hr (by rfl) gD FD.kp bD .nil pass0 (pa_cons (pv 0) (pa_cons (pe_callB call_len_seq (by rfl) T.len PySem.boot_len (pa_cons (pv 1) pa_nil)) pa_nil))) (fun _ _ => rfl)))), ?_⟩
    have h0 : (0 : Int) < (xs.length : Int) := by
      cases xs with
      | nil => exact absurd rfl hx
      | cons x xs => rw [List.length_cons]; omega
    refine ⟨_, rfl, _, rfl, _, rfl, l, _, rfl, .inl (SqL.of hL), p, a, cs, b, g, _, rfl, N, hb, h0, by omega, fun r b' g' H' r0 r1 hb' N' kp => ?_⟩
    obtain ⟨j, rfl⟩ := Int.eq_ofNat_of_zero_le r0
    have hj : j < xs.length := Int.ofNat_lt.mp r1
    exact ⟨l, xs, _, _, rfl, rfl, SqL.of (kp l _ nl hL), atI_nat (List.getElem?_eq_getElem hj), k _ b' g' H' (List.getElem_mem hj) hb' N' kp⟩
end
end K6
set_option Elab.async false
set_option linter.all false
set_option maxRecDepth 100000
set_option maxHeartbeats 1000000
/-! The checks: is_integer, is_within, is_fix. -/
namespace K6
open PySem PySem.Spec PyProof.Rows L2 RV
abbrev sFix : Stmt := top 4
structure Blt2 (mg : Str → Option Value) : Prop where
  isi : mg "isinstance" = none
  int : mg "int" = none
  bool : mg "bool" = none
  str : mg "str" = none
  len : mg "len" = none
  all : mg "all" = none
theorem boot_T {x : Str} {t : String} (h : bootBuiltins x = some (.type t) := by decide +kernel) : bootBuiltins x = some (.type t) := h
/-- isinstance(e, T) of a value of a built-in type -/
def rIsB (K : PySem.W.Frag) : List V → Hp → VK → Prop := rIsi K
theorem isb {K : PySem.W.Frag} {H : Hp} {v : V} {a b : String} {r : Bool} {Q : VK} (t : TyX K H v (.type a)) (h : kitB a b = some r) (k : Q (.bl r) H) : rIsi K [v, .ty b] H Q := ⟨v, .ty b, _, _, r, rfl, .ty b, t, kit_ty h, k⟩
theorem if_posB {b : Bool} {A B : Prop} (hb : b = true) (h : A) : if b = true then A else B := by rw [if_pos hb]; exact h
theorem if_negB {b : Bool} {A B : Prop} (hb : b = false) (h : B) : if b = true then A else B := by rw [if_neg (by rw [hb]; exact Bool.false_ne_true)]; exact h
end K6
set_option Elab.async false
set_option linter.all false
set_option maxRecDepth 100000
set_option maxHeartbeats 1000000
namespace K6
open PySem PySem.Spec PyProof.Rows L2 RV
def letB (c : Nat) : Bool := decide (97 ≤ c) && decide (c ≤ 122)
/-- 1 to 8 letters from a to z -/
def isFixB (x : Str) : Bool := decide (1 ≤ (x.length : Int)) && (decide ((x.length : Int) ≤ 8) && x.cps.toList.all letB)
theorem one_lt {a b : Nat} : ([a] < [b]) ↔ a < b := by
  rw [List.cons_lt_cons_iff]
  constructor
  · rintro (h | ⟨_, h⟩)
    · exact h
    · cases h
  · exact .inl
theorem yesB {σ : L2.St} {H : Hp} {F G : Hp → Prop} (h : F H) : tYes σ H (fun b H3 => if b = true then F H3 else G H3) := by
  show if true = true then F H else G H
  exact if_posB rfl h
theorem let_eq (c : Nat) : (!decide ([c] < [97]) && !decide ([122] < [c])) = letB c := by
  unfold letB
  have e1 : ([c] < [97]) ↔ c < 97 := one_lt
  have e2 : ([122] < [c]) ↔ 122 < c := one_lt
  rw [decide_eq_decide.mpr e1, decide_eq_decide.mpr e2, ← decide_not, ← decide_not, decide_eq_decide.mpr (Nat.not_lt), decide_eq_decide.mpr (Nat.not_lt)]
def spFix (K : PySem.W.Frag) : Sp := fun vs H Q _ => ∃ v, vs = [v] ∧ ((∃ x, v = .str x ∧ x.length ≤ 1000000 ∧ ∀ H', Same H H' → Q (.bl (isFixB x)) H') ∨ (∃ t, TyX K H v t ∧ PySem.W.kitOne K t (.type "str") = some false ∧ Q (.bl false) H))
section
variable {P : Program} {w : World} {K : PySem.W.Frag} {mg : Str → Option Value} {base : Heap} {f fI : Addr} {fd fdI : FuncData}
abbrev rLeS : R2 := fun x y H Q => ∃ i j, x = V.str i ∧ y = V.str j ∧ Q (V.bl (!decide (j.cps.toList < i.cps.toList))) H
abbrev scFix_N : List Str := ["value", "letter"]
theorem scFix : FnScope scFix_N ["value"] (defScope sFix) := ⟨rfl, rfl, rfl, by decide +kernel, rfl, by decide +kernel, by decide +kernel⟩
def teLet : TE := tChain rLeS rLeS (tC (.str "a")) (tVar 1) (tC (.str "z"))
theorem lets_read {σ : L2.St} {H : Hp} {Q : VK} {x : Str} (h0 : σ[0]? = some (some (.str x))) (hw : ∀ v, wipe ((wipe σ [1]).set 1 v) [1] = wipe σ [1]) (hi : ∀ v, ((wipe σ [1]).set 1 (some v))[1]? = some (some v)) (hz : x.length ≤ 1000000)
    (k : ∀ r H', Same H H' → H' r = some (.lst ((x.cps.toList.map letB).map V.bl)) → Q (.ref r) H') : tLc (iStr (tVar 0)) (gName 1) tYes teLet [1] σ H Q := by
  refine ⟨_, h0, x, rfl, fun D nD => lc_it walk_str (fun n H' => Same H H' ∧ H' D = some (.lst (((x.cps.toList.take n).map letB).map V.bl))) ⟨fun c o e => ?_, upd_same⟩ (fun _ _ _ _ => trivial) ?_ ?_⟩
  · rw [upd_ne (ne_of_none e nD)]
    exact e
  · rintro n v H1 H2 hn ⟨s1, hD⟩ ⟨rfl, c, hc, rfl⟩
    have hc2 : x.cps.toList[n]? = some c := by rw [Array.getElem?_toList]; exact hc
    obtain ⟨hl, hv⟩ := List.getElem?_eq_some_iff.mp hc2
    have more : x.cps.toList.take (n + 1) = x.cps.toList.take n ++ [c] := by
      rw [← hv]
      exact List.take_succ_eq_append_getElem hl
    have fin : ∀ b, b = letB c → ∃ acc, H2 D = some (.lst acc) ∧ acc.length < sizeLine ∧ (Same H (upd H2 D (.lst (acc ++ [V.bl b]))) ∧ upd H2 D (.lst (acc ++ [V.bl b])) D = some (.lst (((x.cps.toList.take (n + 1)).map letB).map V.bl))) := by
      rintro b rfl
      refine ⟨_, hD, ?_, ?_, ?_⟩
      · have : x.cps.toList.length = x.length := by simp [Str.length]
        rw [List.length_map, List.length_map, List.length_take, sizeLine_eq]
        omega
      · intro c o hc
        rw [upd_ne (ne_of_none hc nD)]
        exact s1 _ _ hc
      · rw [more, List.map_append, List.map_append]
        exact upd_same
    refine ⟨hw _, yesB ?_⟩
    refine ⟨_, hi _, "a", ⟨#[c]⟩, rfl, rfl, _, rfl, ?_⟩
    have ea : ("a" : Str).cps.toList = [97] := by decide +kernel
    have ez : ("z" : Str).cps.toList = [122] := by decide +kernel
    cases e : (!decide ((⟨#[c]⟩ : Str).cps.toList < ("a" : Str).cps.toList)) with
    | true =>
      refine if_posB rfl ⟨⟨#[c]⟩, "z", rfl, rfl, fin _ ?_⟩
      rw [← let_eq]
      rw [ea] at e
      rw [ez]
      have e' : (!decide ([c] < [97])) = true := e
      rw [e', Bool.true_and]
    | false =>
      refine if_negB rfl (fin _ ?_)
      rw [← let_eq]
      rw [ea] at e
      have e' : (!decide ([c] < [97])) = false := e
      rw [e', Bool.false_and]
  · rintro H1 ⟨s1, hD⟩
    rw [List.take_of_length_le (by simp)] at hD
    exact k D H1 s1 hD
theorem ok_fix (F : FnP K "is_fix" sFix f fd) (T : Blt2 mg) : FnOk P w K mg base CX0 1 f fd ["value"] (spFix K) := by
  refine F.ok scFix (fun vs H Q E h => ?_) (fun cdv A outer s H vs Q E hr h => ?_)
  · obtain ⟨v, rfl, _⟩ := h
    rfl
  · obtain ⟨v, rfl, k⟩ := h
    refine ⟨_, PSs.nox (pss_cons (ps_if (PW.pt (pw_or (pt_not (pt_val (pe_callB call_isi (by rfl) T.isi PyProof.Rows.boot_isinstance (pa_cons (pv 0) (pa_cons (pe_bltn (v := .ty "str") (by rfl) T.str boot_T rfl) pa_nil)))))
        (pw_or1 (pt_not (pt_chain op_le op_le pe_int (pe_callB call_len_str (by rfl) T.len PySem.boot_len (pa_cons (pv 0) pa_nil)) pe_int))))) (pss_one (ps_ret pe_bl)) pss_nil)
      (pss_one (ps_ret (pe_callB (cr_all rfl) (by rfl) T.all PyProof.Rows.boot_all (pa_cons (pe_lc (own := [("letter", 1)]) (g := gName 1) (tt := tYes) (te := teLet) rfl scFix.nd (pi_str (pv 0)) (blkOk_by (N := scFix_N) (sc := defScope sFix) (by decide +kernel))
        (fun _ _ _ _ _ => pg_name (i := 1) scFix.nd rfl (.inl rfl)) (fun _ _ _ _ _ => pts_nil) (fun _ _ _ _ _ => pe_chain op_le_str op_le_str pe_str (pv 1) pe_str)) pa_nil))))), ?_⟩
    rcases k with ⟨x, rfl, hz, k⟩ | ⟨t, ht, h1, k⟩
    · refine ⟨.str x, rfl, .str x, .ty "str", _, _, true, rfl, .ty _, .base (.str x), kit_ty (by decide +kernel), true, rfl, if_negB rfl ?_⟩
      refine ⟨.str x, rfl, x, rfl, by rw [sizeLine_eq]; omega, 1, _, rfl, rfl, _, rfl, ?_⟩
      by_cases h1 : (1 : Int) ≤ (x.length : Int)
      · refine if_posB (decide_eq_true h1) ⟨_, 8, rfl, rfl, _, rfl, ?_⟩
        by_cases h2 : (x.length : Int) ≤ 8
        · refine if_negB (by rw [decide_eq_true h2]; rfl) ?_
          show tLc (iStr (tVar 0)) (gName 1) tYes teLet [1] (L2.start scFix_N [.str x]) H fun r H1 => rAll K [r] H1 Q
          refine lets_read (by simp [L2.start]) (by intro v; simp [wipe, L2.start]) (by intro v; simp [wipe, L2.start]) hz fun r H' s' R => ⟨r, _, rfl, SqL.of R, ?_⟩
          have e : isFixB x = (x.cps.toList.map letB).all id := by
            unfold isFixB
            rw [decide_eq_true h1, decide_eq_true h2, Bool.true_and, Bool.true_and, List.all_map]
            rfl
          rw [← e]
          exact k H' s'
        · refine if_posB (by rw [decide_eq_false h2]; rfl) ?_
          have e : isFixB x = false := by
            unfold isFixB
            rw [decide_eq_false h2, Bool.false_and, Bool.and_false]
          rw [e] at k
          exact k H (fun _ _ z => z)
      · refine if_negB (decide_eq_false h1) ⟨_, rfl, if_posB rfl ?_⟩
        have e : isFixB x = false := by
          unfold isFixB
          rw [decide_eq_false h1, Bool.false_and]
        rw [e] at k
        exact k H (fun _ _ z => z)
    · exact ⟨v, rfl, v, .ty "str", _, _, false, rfl, .ty _, ht, h1, false, rfl, if_posB rfl (if_posB rfl k)⟩
end
end K6
set_option Elab.async false
set_option linter.all false
set_option maxRecDepth 100000
set_option maxHeartbeats 4000000
/-! Own exception classes whose __init__ keeps its one or two parameters as fields: made by position and by name. -/
namespace EI
open PySem PySem.Spec PyProof.Rows L2 EV He EF
/-- an error laid anew at a, its dict at d -/
def mkE (H : Hp) (a d C : Addr) (fs : List (Str × V)) : Hp := upd (upd H d (exd d fs)) a (exo a C (some d))
theorem mkE_at {H : Hp} {a d C : Addr} {fs : List (Str × V)} (h : d ≠ a) : ErrAt (mkE H a d C fs) a C d fs :=
  ⟨upd_same, by
    unfold mkE
    rw [upd_ne h, upd_same]⟩
theorem mkE_same {H : Hp} {a d C : Addr} {fs : List (Str × V)} (na : H a = none) (nd : H d = none) : Same H (mkE H a d C fs) := fun b o e => by
  unfold mkE
  rw [upd_ne (ne_of_none e na), upd_ne (ne_of_none e nd)]
  exact e
theorem _root_.EV.ErrAt.same {H H' : Hp} {a C d : Addr} {fs : List (Str × V)} (r : ErrAt H a C d fs) (k : Same H H') : ErrAt H' a C d fs := ⟨k _ _ r.ob, k _ _ r.dc⟩
theorem _root_.EV.IsErr.same {H H' : Hp} {a C : Addr} (r : IsErr H a C) (k : Same H H') : IsErr H' a C := by
  rcases r with ⟨d, fs, r⟩ | r
  · exact .inl ⟨d, fs, r.same k⟩
  · exact .inr (k _ _ r)
theorem mk1_eq {H : Hp} {a d C : Addr} {fs : List (Str × V)} {o : HO} (h : d ≠ a) : upd (upd (upd H a o) d (exd d fs)) a (exo a C (some d)) = mkE H a d C fs := by
  funext b
  unfold mkE
  by_cases e : b = a
  · rw [e, upd_same, upd_same]
  · rw [upd_ne e, upd_ne e]
    by_cases e2 : b = d
    · rw [e2, upd_same, upd_same]
    · rw [upd_ne e2, upd_ne e2, upd_ne e]
theorem mk2_eq {H : Hp} {a d C : Addr} {fs gs : List (Str × V)} {o : HO} (h : d ≠ a) : upd (upd (upd (upd H a o) d (exd d fs)) a (exo a C (some d))) d (exd d gs) = mkE H a d C gs := by
  funext b
  unfold mkE
  by_cases e2 : b = d
  · rw [e2, upd_same, upd_ne h, upd_same]
  · rw [upd_ne e2]
    by_cases e : b = a
    · rw [e, upd_same, upd_same]
    · rw [upd_ne e, upd_ne e, upd_ne e2, upd_ne e2, upd_ne e]
def spE1 (C : Addr) (f : Str) : Sp := fun vs H Q _ => ∃ (a : Addr) (v : V), vs = [.ref a, v] ∧ H a = some (exo a C none) ∧
  ∀ d, H d = none → d ≠ a → Q .non (upd (upd H d (exd d [(f, v)])) a (exo a C (some d)))
def spE2 (C : Addr) (f g : Str) : Sp := fun vs H Q _ => ∃ (a : Addr) (v w : V), vs = [.ref a, v, w] ∧ H a = some (exo a C none) ∧
  ∀ d, H d = none → d ≠ a → Q .non (upd (upd (upd H d (exd d [(f, v)])) a (exo a C (some d))) d (exd d [(g, w), (f, v)]))
/-- the body `self.f = f` -/
structure Body1 (st : Stmt) (f : Str) : Prop where
  bd : ∃ q1 q2 q3 q4, defBody st = [.Assign [.Attribute (.Name "self" q1) f q2] (.Name f q3) q4]
  sc : defScope st = { kind := .function, names := [("self", .local), (f, .local)], isGenerator := false, isCoroutine := false, more := [] }
  kb : ∀ (qual : Str) (kV doc pm : Value) (an : Option Addr) (cdv ct a v : Value), bindArgs (PySem.W.fnOf "__init__" qual (defArgs st) (defBody st) (defScope st) .none kV doc pm an cdv ct) ⟨[a], [(f, v)]⟩ = pure [(("self" : Str), a), (f, v)]
  pb : ∀ (qual : Str) (kV doc pm : Value) (an : Option Addr) (cdv ct a v : Value), bindArgs (PySem.W.fnOf "__init__" qual (defArgs st) (defBody st) (defScope st) .none kV doc pm an cdv ct) ⟨[a, v], []⟩ = pure [(("self" : Str), a), (f, v)]
  ne : f ≠ "self"
  n1 : (f == ("__debug__" : Str)) = false
  n2 : (f == ("__classdict__" : Str)) = false
section
variable {P : Program} {w : World} {K : PySem.W.Frag} {mg : Str → Option Value} {base : Heap} {fI : Addr} {fd : FuncData} {C : Addr} {f g qual : Str} {st : Stmt}
theorem sc1 (B : Body1 st f) : FnScope ["self", f] ["self", f] (defScope st) := by
  rw [B.sc]
  refine ⟨rfl, rfl, rfl, ?_, rfl, ?_, by simp⟩
  · simp [B.ne.symm]
  · intro x hx
    rcases List.mem_cons.mp hx with rfl | hx
    · exact .inl rfl
    · rcases List.mem_cons.mp hx with rfl | hx
      · refine .inl ?_
        show List.lookup x [(("self" : Str), NameKind.local), (x, NameKind.local)] = _
        have e : (x == ("self" : Str)) = false := by simpa using B.ne
        simp [List.lookup, e]
      · cases hx
theorem vis1 (B : Body1 st f) : Vis (defScope st) f := by
  have := (sc1 B).par f (by simp)
  rcases this with h | h
  · exact .inl h
  · exact .inr (.inl h)
theorem vis0 (B : Body1 st f) : Vis (defScope st) "self" := by
  rw [B.sc]
  exact .inl rfl
theorem ok_init1 (F : FunD K "__init__" qual (defArgs st) (defBody st) (defScope st) [] [] fI fd) (B : Body1 st f) (T : OexC K C) (no : PySem.W.findIn K (.ref C) f = some none) :
    FnOk P w K mg base CX0 1 fI fd ["self", f] (spE1 C f) := by
  refine F.ok (sc1 B) (fun vs H Q E h => ?_) (fun cdv A outer s H vs Q E hr h => ?_)
  · obtain ⟨a, v, rfl, _⟩ := h
    rfl
  · obtain ⟨a, v, rfl, ha, k⟩ := h
    obtain ⟨q1, q2, q3, q4, eb⟩ := B.bd
    rw [eb]
    refine ⟨_, PSs.nox (pss_one (ps_ost (pe_var (i := 0) rfl (vis0 B)) (pe_var (i := 1) rfl (vis1 B) B.n1 B.n2))), ?_⟩
    exact ⟨v, rfl, _, rfl, a, C, rfl, T, no, .inl ⟨ha, fun d hd ne => k d hd ne⟩⟩
/-- how a call binds -/
theorem kw1 (F : FunD K "__init__" qual (defArgs st) (defBody st) (defScope st) [] [] fI fd) (B : Body1 st f) (s : Shared) (a v : Value) : BindsTo s fd ⟨[a], [(f, v)]⟩ [(("self" : Str), a), (f, v)] := by
  obtain ⟨oc, od, dV, kV, doc, pm, an, cdv, ct, osl, rfl, lk, hcd, hD, hK⟩ := F.ex
  rcases hD with ⟨_, rfl⟩ | ⟨e, _⟩
  · exact .of_eq (B.kb _ _ _ _ _ _ _ _ _)
  · exact absurd rfl e
theorem pos1 (F : FunD K "__init__" qual (defArgs st) (defBody st) (defScope st) [] [] fI fd) (B : Body1 st f) : Binds K fd ["self", f] [] :=
  F.bindsN fun _ _ _ _ _ _ us hl => match us, hl with | [_, _], _ => B.pb _ _ _ _ _ _ _ _ _
end
/-- what is known of such a class x with the field f -/
structure Cl1 (P : Program) (w : World) (K : PySem.W.Frag) (mg : Str → Option Value) (base : Heap) (x f : Str) (bs : List Str) : Prop where
  e : ErrK K x bs
  mkr : ∃ (fI : Addr) (fd : FuncData), PySem.W.findIn K (.ref (ga K x)) "__init__" = some (some (.ref fI)) ∧ PySem.W.typeIn K (.ref fI) = some (.type "function") ∧
    FnOk P w K mg base CX0 1 fI fd ["self", f] (spE1 (ga K x) f) ∧ Binds K fd ["self", f] [] ∧ ∀ (s : Shared) (a v : Value), BindsTo s fd ⟨[a], [(f, v)]⟩ [(("self" : Str), a), (f, v)]
  no : PySem.W.findIn K (.ref (ga K x)) f = some none
  gl : mg x = some (.ref (ga K x))
/-- x(e) | x(f = e): a new error -/
def tE1 (C : Addr) (f : Str) (te : TE) : TE := fun σ H Q => te σ H fun v H1 => ∀ a d, H1 a = none → H1 d = none → d ≠ a → Q (.ref a) (mkE H1 a d C [(f, v)])
def wE1 (C : Addr) (f : Str) (Q : VK) : List V → Hp → Prop := fun vs H1 => match vs with
  | [v] => ∀ a d, H1 a = none → H1 d = none → d ≠ a → Q (.ref a) (mkE H1 a d C [(f, v)])
  | _ => False
theorem wE1_of {C : Addr} {f : Str} {Q : VK} : ∀ {vs : List V} {H1 : Hp}, wE1 C f Q vs H1 → ∃ v, vs = [v] ∧ ∀ a d, H1 a = none → H1 d = none → d ≠ a → Q (.ref a) (mkE H1 a d C [(f, v)])
  | [v], _, h => ⟨v, rfl, h⟩
  | [], _, h => h.elim
  | _ :: _ :: _, _, h => h.elim
section
variable {X : Cx} {x f : Str} {bs : List Str} {e : Expr} {te : TE} {p pos kpos : Pos} {k : Nat}
theorem tE1_to {C : Addr} {f : Str} {H1 : Hp} {v : V} {Q : VK} (q : ∀ a d, H1 a = none → H1 d = none → d ≠ a → Q (.ref a) (mkE H1 a d C [(f, v)])) (a : Addr) (ha : H1 a = none) :
    spE1 C f [.ref a, v] (upd H1 a (exo a C none)) (fun u H2 => u = .non ∧ Q (.ref a) H2) E0 := by
  refine ⟨a, v, rfl, upd_same, fun d hd ne => ⟨rfl, ?_⟩⟩
  rw [upd_ne ne] at hd
  rw [mk1_eq ne]
  exact q a d ha hd ne
theorem pe_e1 (T : Cl1 X.prog X.w X.K X.mg X.base x f bs) (hr : Room 2 X.A) (hc : Passes CX0 X E0) (hg : Gl X x) (he : PE X e te)
    (hdb : (x == ("__debug__" : Str)) = false := by decide) (hs : starEach [e] X.env = (false, eval e X.env) :: starEach [] X.env := by rfl)
    (hpl : (backTo pos (starEach [] X.env)).any (·.1) = false := by rfl) : PE X (.Call (.Name x p) [e] [] pos) (tE1 (ga X.K x) f te) := by
  obtain ⟨fI, fd, iC, tI, F1, b1, _⟩ := T.mkr
  refine ⟨fun pins s σ H Q I h => ?_⟩
  refine wpAny_Call_Name_kw (ld_glob I hg T.gl ?_ hdb)
  refine PySem.W.callWith_K (h₀ := X.base) I.ok.mod.kin T.e.ox.kC (thn ((pa_cons he pa_nil (hs := hs)).run pos pins s σ H (wE1 (ga X.K x) f Q) I h) fun us s1 ⟨vs, H1, I1, r1, q1⟩ => ⟨I1.kIn, ?_⟩) hs hpl
  obtain ⟨v, rfl, q⟩ := wE1_of q1
  show wpAny _ _ (call (.ref (ga X.K x)) us) _ _ _
  refine run_err T.e.ox iC tI F1 hr (fun s' a X' => ?_) hc I1 r1 ?_ (fun a ha => tE1_to q a ha)
  · have hl : us.length = 1 := r1.length.symm
    have z := b1 s' (.ref a :: us) X' (by rw [List.append_nil, List.length_cons, hl]; rfl)
    rw [List.append_nil] at z
    exact z
  · rw [← r1.length, sizeLine_eq]
    exact (by decide : 1 ≤ 16777216)
theorem pe_e1K (T : Cl1 X.prog X.w X.K X.mg X.base x f bs) (hr : Room 2 X.A) (hc : Passes CX0 X E0) (hg : Gl X x) (he : PE X e te)
    (hall : (backToKw pos (keywordEach [⟨some f, e, kpos⟩] X.env)).all (·.1.isSome) = true := by rfl)
    (hks : (backToKw pos (keywordEach [⟨some f, e, kpos⟩] X.env)).filterMap (·.1) = [f] := by rfl)
    (hdb : (x == ("__debug__" : Str)) = false := by decide)
    (hpl : ((backTo pos (starEach [] X.env)).any (·.1) || (backToKw pos (keywordEach [⟨some f, e, kpos⟩] X.env)).any (·.1.isNone)) = false := by rfl) :
    PE X (.Call (.Name x p) [] [⟨some f, e, kpos⟩] pos) (tE1 (ga X.K x) f te) := by
  obtain ⟨fI, fd, iC, tI, F1, b1, bk⟩ := T.mkr
  refine ⟨fun pins s σ H Q I h => ?_⟩
  refine wpAny_Call_Name_kw (ld_glob I hg T.gl ?_ hdb)
  refine PySem.W.callWith_KW0 (h₀ := X.base) I.ok.mod.kin T.e.ox.kC hall ?_ hpl
  refine thn ((pk_cons he pk_nil).run pos pins s σ H (wE1 (ga X.K x) f Q) I h) fun ws s2 ⟨zs, H2, I2, rz, q2⟩ => ⟨I2.kIn, ?_⟩
  rw [hks]
  obtain ⟨v, rfl, q⟩ := wE1_of q2
  refine run_err T.e.ox iC tI F1 hr (fun s' a X' => ?_) hc I2 rz (Nat.zero_le _) (fun a ha => tE1_to q a ha)
  cases rz with
  | cons r1 r2 =>
    cases r2
    exact bk s' _ _
end
/-! ### two fields -/
/-- the body `self.f = f; self.g = g` -/
structure Body2 (st : Stmt) (f g : Str) : Prop where
  bd : ∃ q1 q2 q3 q4 r1 r2 r3 r4, defBody st = [.Assign [.Attribute (.Name "self" q1) f q2] (.Name f q3) q4, .Assign [.Attribute (.Name "self" r1) g r2] (.Name g r3) r4]
  sc : FnScope ["self", f, g] ["self", f, g] (defScope st)
  v0 : Vis (defScope st) "self"
  v1 : Vis (defScope st) f
  v2 : Vis (defScope st) g
  kb : ∀ (qual : Str) (kV doc pm : Value) (an : Option Addr) (cdv ct a v w : Value), bindArgs (PySem.W.fnOf "__init__" qual (defArgs st) (defBody st) (defScope st) .none kV doc pm an cdv ct) ⟨[a], [(g, w), (f, v)]⟩ = pure [(("self" : Str), a), (f, v), (g, w)]
  pb : ∀ (qual : Str) (kV doc pm : Value) (an : Option Addr) (cdv ct a v w : Value), bindArgs (PySem.W.fnOf "__init__" qual (defArgs st) (defBody st) (defScope st) .none kV doc pm an cdv ct) ⟨[a, v, w], []⟩ = pure [(("self" : Str), a), (f, v), (g, w)]
  n1 : (f == ("__debug__" : Str)) = false
  n2 : (f == ("__classdict__" : Str)) = false
  n3 : (g == ("__debug__" : Str)) = false
  n4 : (g == ("__classdict__" : Str)) = false
section
variable {P : Program} {w : World} {K : PySem.W.Frag} {mg : Str → Option Value} {base : Heap} {fI : Addr} {fd : FuncData} {C : Addr} {f g qual : Str} {st : Stmt}
theorem ok_init2 (F : FunD K "__init__" qual (defArgs st) (defBody st) (defScope st) [] [] fI fd) (B : Body2 st f g) (T : OexC K C) (no : PySem.W.findIn K (.ref C) f = some none) (no2 : PySem.W.findIn K (.ref C) g = some none) :
    FnOk P w K mg base CX0 1 fI fd ["self", f, g] (spE2 C f g) := by
  refine F.ok B.sc (fun vs H Q E h => ?_) (fun cdv A outer s H vs Q E hr h => ?_)
  · obtain ⟨a, v, u, rfl, _⟩ := h
    rfl
  · obtain ⟨a, v, u, rfl, ha, k⟩ := h
    obtain ⟨q1, q2, q3, q4, r1, r2, r3, r4, eb⟩ := B.bd
    rw [eb]
    refine ⟨_, PSs.nox (pss_cons (ps_ost (pe_var (i := 0) rfl B.v0) (pe_var (i := 1) rfl B.v1 B.n1 B.n2)) (pss_one (ps_ost (pe_var (i := 0) rfl B.v0) (pe_var (i := 2) rfl B.v2 B.n3 B.n4)))), ?_⟩
    refine ⟨v, rfl, _, rfl, a, C, rfl, T, no, .inl ⟨ha, fun d hd ne => ?_⟩⟩
    exact ⟨u, rfl, _, rfl, a, C, rfl, T, no2, .inr ⟨d, _, upd_same, by rw [upd_ne ne, upd_same], (by show 1 ≤ 900; decide), k d hd ne⟩⟩
theorem kw2 (F : FunD K "__init__" qual (defArgs st) (defBody st) (defScope st) [] [] fI fd) (B : Body2 st f g) (s : Shared) (a v u : Value) : BindsTo s fd ⟨[a], [(g, u), (f, v)]⟩ [(("self" : Str), a), (f, v), (g, u)] := by
  obtain ⟨oc, od, dV, kV, doc, pm, an, cdv, ct, osl, rfl, lk, hcd, hD, hK⟩ := F.ex
  rcases hD with ⟨_, rfl⟩ | ⟨e, _⟩
  · exact .of_eq (B.kb _ _ _ _ _ _ _ _ _ _)
  · exact absurd rfl e
theorem pos2 (F : FunD K "__init__" qual (defArgs st) (defBody st) (defScope st) [] [] fI fd) (B : Body2 st f g) : Binds K fd ["self", f, g] [] :=
  F.bindsN fun _ _ _ _ _ _ us hl => match us, hl with | [_, _, _], _ => B.pb _ _ _ _ _ _ _ _ _ _
end
structure Cl2 (P : Program) (w : World) (K : PySem.W.Frag) (mg : Str → Option Value) (base : Heap) (x f g : Str) (bs : List Str) : Prop where
  e : ErrK K x bs
  mkr : ∃ (fI : Addr) (fd : FuncData), PySem.W.findIn K (.ref (ga K x)) "__init__" = some (some (.ref fI)) ∧ PySem.W.typeIn K (.ref fI) = some (.type "function") ∧
    FnOk P w K mg base CX0 1 fI fd ["self", f, g] (spE2 (ga K x) f g) ∧ Binds K fd ["self", f, g] [] ∧ ∀ (s : Shared) (a v u : Value), BindsTo s fd ⟨[a], [(g, u), (f, v)]⟩ [(("self" : Str), a), (f, v), (g, u)]
  no : PySem.W.findIn K (.ref (ga K x)) f = some none
  no2 : PySem.W.findIn K (.ref (ga K x)) g = some none
  gl : mg x = some (.ref (ga K x))
def wE2 (C : Addr) (f g : Str) (Q : VK) : List V → Hp → Prop := fun vs H1 => match vs with
  | [v, u] => ∀ a d, H1 a = none → H1 d = none → d ≠ a → Q (.ref a) (mkE H1 a d C [(g, u), (f, v)])
  | _ => False
theorem wE2_of {C : Addr} {f g : Str} {Q : VK} : ∀ {vs : List V} {H1 : Hp}, wE2 C f g Q vs H1 → ∃ v u, vs = [v, u] ∧ ∀ a d, H1 a = none → H1 d = none → d ≠ a → Q (.ref a) (mkE H1 a d C [(g, u), (f, v)])
  | [v, u], _, h => ⟨v, u, rfl, h⟩
  | [], _, h => h.elim
  | [_], _, h => h.elim
  | _ :: _ :: _ :: _, _, h => h.elim
section
variable {X : Cx} {x f g : Str} {bs : List Str} {e e2 : Expr} {te te2 : TE} {p pos kpos kpos2 : Pos} {k : Nat}
theorem tE2_to {C : Addr} {f g : Str} {H1 : Hp} {v u : V} {Q : VK} (q : ∀ a d, H1 a = none → H1 d = none → d ≠ a → Q (.ref a) (mkE H1 a d C [(g, u), (f, v)])) (a : Addr) (ha : H1 a = none) :
    spE2 C f g [.ref a, v, u] (upd H1 a (exo a C none)) (fun z H2 => z = .non ∧ Q (.ref a) H2) E0 := by
  refine ⟨a, v, u, rfl, upd_same, fun d hd ne => ⟨rfl, ?_⟩⟩
  rw [upd_ne ne] at hd
  rw [mk2_eq ne]
  exact q a d ha hd ne
/-- x(e, e2) -/
theorem pe_e2 (T : Cl2 X.prog X.w X.K X.mg X.base x f g bs) (hr : Room 2 X.A) (hc : Passes CX0 X E0) (hg : Gl X x) (he : PE X e te) (he2 : PE X e2 te2)
    (hdb : (x == ("__debug__" : Str)) = false := by decide) (hs : starEach [e, e2] X.env = (false, eval e X.env) :: starEach [e2] X.env := by rfl) (hs2 : starEach [e2] X.env = (false, eval e2 X.env) :: starEach [] X.env := by rfl)
    (hpl : (backTo pos (starEach [e2] X.env)).any (·.1) = false := by rfl) :
    PE X (.Call (.Name x p) [e, e2] [] pos) (fun σ H Q => te σ H fun v H1 => te2 σ H1 fun u H2 => wE2 (ga X.K x) f g Q [v, u] H2) := by
  obtain ⟨fI, fd, iC, tI, F1, b1, _⟩ := T.mkr
  refine ⟨fun pins s σ H Q I h => ?_⟩
  refine wpAny_Call_Name_kw (ld_glob I hg T.gl ?_ hdb)
  refine PySem.W.callWith_K (h₀ := X.base) I.ok.mod.kin T.e.ox.kC (thn ((pa_cons he (pa_cons he2 pa_nil (hs := hs2)) (hs := hs)).run pos pins s σ H (wE2 (ga X.K x) f g Q) I h) fun us s1 ⟨vs, H1, I1, r1, q1⟩ => ⟨I1.kIn, ?_⟩) hs hpl
  obtain ⟨v, u, rfl, q⟩ := wE2_of q1
  show wpAny _ _ (call (.ref (ga X.K x)) us) _ _ _
  refine run_err T.e.ox iC tI F1 hr (fun s' a X' => ?_) hc I1 r1 ?_ (fun a ha => tE2_to q a ha)
  · have hl : us.length = 2 := r1.length.symm
    have z := b1 s' (.ref a :: us) X' (by rw [List.append_nil, List.length_cons, hl]; rfl)
    rw [List.append_nil] at z
    exact z
  · rw [← r1.length, sizeLine_eq]
    exact (by decide : 2 ≤ 16777216)
/-- x(g = e, f = e2) -/
theorem pe_e2K (T : Cl2 X.prog X.w X.K X.mg X.base x f g bs) (hr : Room 2 X.A) (hc : Passes CX0 X E0) (hg : Gl X x) (he : PE X e te) (he2 : PE X e2 te2)
    (hall : (backToKw pos (keywordEach [⟨some g, e, kpos⟩, ⟨some f, e2, kpos2⟩] X.env)).all (·.1.isSome) = true := by rfl)
    (hks : (backToKw pos (keywordEach [⟨some g, e, kpos⟩, ⟨some f, e2, kpos2⟩] X.env)).filterMap (·.1) = [g, f] := by rfl)
    (hdb : (x == ("__debug__" : Str)) = false := by decide)
    (hpl : ((backTo pos (starEach [] X.env)).any (·.1) || (backToKw pos (keywordEach [⟨some g, e, kpos⟩, ⟨some f, e2, kpos2⟩] X.env)).any (·.1.isNone)) = false := by rfl) :
    PE X (.Call (.Name x p) [] [⟨some g, e, kpos⟩, ⟨some f, e2, kpos2⟩] pos) (fun σ H Q => te σ H fun u H1 => te2 σ H1 fun v H2 => wE2 (ga X.K x) f g Q [v, u] H2) := by
  obtain ⟨fI, fd, iC, tI, F1, b1, bk⟩ := T.mkr
  refine ⟨fun pins s σ H Q I h => ?_⟩
  refine wpAny_Call_Name_kw (ld_glob I hg T.gl ?_ hdb)
  refine PySem.W.callWith_KW0 (h₀ := X.base) I.ok.mod.kin T.e.ox.kC hall ?_ hpl
  refine thn ((pk_cons he (pk_cons he2 pk_nil)).run pos pins s σ H (fun zs H2 => match zs with
    | [u, v] => wE2 (ga X.K x) f g Q [v, u] H2
    | _ => False) I h) fun ws s2 ⟨zs, H2, I2, rz, q2⟩ => ⟨I2.kIn, ?_⟩
  rw [hks]
  cases rz with
  | nil => exact q2.elim
  | cons r1 rz => cases rz with
    | nil => exact q2.elim
    | cons r2 rz => cases rz with
      | cons r3 rz => exact q2.elim
      | nil =>
        obtain ⟨v, u, e, q⟩ := wE2_of q2
        cases e
        exact run_err T.e.ox iC tI F1 hr (fun s' a X' => bk s' _ _ _) hc I2 (.cons r2 (.cons r1 .nil)) (Nat.zero_le _) (fun a ha => tE2_to q a ha)
end
end EI
set_option Elab.async false
set_option linter.all false
set_option maxRecDepth 100000
set_option maxHeartbeats 1000000
/-! What the head's facts say of the row: errors, Words, Lot, the defs. -/
namespace K6
open PySem PySem.Spec PyProof.Rows L2 RV EV He EF EI
abbrev gW (K : PySem.W.Frag) : Addr := ga K "Words"
abbrev gO (K : PySem.W.Frag) : Addr := ga K "Lot"
abbrev gNu (K : PySem.W.Frag) : Addr := ga K "Number"
abbrev gRe (K : PySem.W.Frag) : Addr := ga K "Release"
abbrev gNo (K : PySem.W.Frag) : Addr := ga K "Note"
abbrev gT (K : PySem.W.Frag) : Addr := ga K "BadText"
structure KF (P : Program) (w : World) (K : PySem.W.Frag) (mg : Str → Option Value) (base : Heap) : Prop where
  fr : ∀ x ∈ freesN, mg x = none
  ek : ∀ q ∈ errsN, ErrK K q.1 q.2
  gl : ∀ q ∈ errsN, mg q.1 = some (.ref (ga K q.1))
  bf : Cl1 P w K mg base "BadFix" "value" bT
  bl : Cl1 P w K mg base "BadLot" "part" bT
  bnu : Cl1 P w K mg base "BadNumber" "value" bT
  bw : Cl1 P w K mg base "BadWay" "value" bT
  un : Cl1 P w K mg base "Unlike" "part" bM
  tx : Cl2 P w K mg base "BadText" "line" "word" bT
  tm : Cl2 P w K mg base "TooMany" "what" "most" bM
  tops : ∀ q ∈ topsN, ∃ fd, FnP K q.1 (top q.2) (ga K q.1) fd ∧ mg q.1 = some (.ref (ga K q.1))
  gw : mg "Words" = some (.ref (gW K))
  go : mg "Lot" = some (.ref (gO K))
  cl : Cls K (gW K)
  clo : Cls K (gO K)
  mkr : Mk K (gW K) (ma K (gW K) "__init__")
  mko : Mk K (gO K) (ma K (gO K) "__init__")
  noP : NoAttr K (gW K) "parts"
  noL : NoAttr K (gW K) "line"
  noT : NoAttr K (gW K) "taken"
  noF : NoAttr K (gO K) "fixes"
  meth : ∀ q ∈ methN, Meth K (gW K) q.1 (ma K (gW K) q.1) ∧ ∃ fd, FunD K q.1 ("Words." ++ q.1) (defArgs (wSt q.2)) (defBody (wSt q.2)) (defScope (wSt q.2)) [] [] (ma K (gW K) q.1) fd
  lot : ∀ q ∈ lotN, Meth K (gO K) q.1 (ma K (gO K) q.1) ∧ ∃ fd, FunD K q.1 ("Lot." ++ q.1) (defArgs (lSt q.2)) (defBody (lSt q.2)) (defScope (lSt q.2)) [] [] (ma K (gO K) q.1) fd
  ini : ∃ fd, FunD K "__init__" "Words.__init__" (defArgs (wSt 0)) (defBody (wSt 0)) (defScope (wSt 0)) [.int 0] [] (ma K (gW K) "__init__") fd
  gk : ∀ q ∈ mkN, mg q.1 = some (.ref (ga K q.1)) ∧ Cls K (ga K q.1) ∧ Mk K (ga K q.1) (ma K (ga K q.1) "__init__")
  ik : ∀ q ∈ mkN, ∃ fd, FunD K "__init__" (q.1 ++ ".__init__") (defArgs (inClass (top q.2) 0)) (defBody (inClass (top q.2) 0)) (defScope (inClass (top q.2) 0)) [] [] (ma K (ga K q.1) "__init__") fd
  noLi : NoAttr K (gNu K) "line"
  noAt : NoAttr K (gNu K) "at"
  noNu : NoAttr K (gRe K) "number"
  noLo : NoAttr K (gRe K) "lot"
  noGa : NoAttr K (gNo K) "gained"
  noLs : NoAttr K (gNo K) "lost"
  iL : ∃ t, mg "LINES" = some (.int 6 t)
  iR : ∃ t, mg "RELEASES" = some (.int 60 t)
  note : ∀ q ∈ noteN, Meth K (gNo K) q.1 (ma K (gNo K) q.1) ∧ ∃ fd, FunD K q.1 ("Note." ++ q.1) (defArgs (nSt q.2)) (defBody (nSt q.2)) (defScope (nSt q.2)) [] [] (ma K (gNo K) q.1) fd
  relb : relB K = true
  tn : (tabN.map fun p => (cT K p).2).Nodup
  nb : BMeth K (gW K) "is_next" (ma K (gW K) "is_next")
  xE : ∀ q ∈ errsN, PySem.W.exmOne K (.ref (ga K q.1)) (.ref (ga K "EditionError")) = some true
  l1 : lotB1 K (gO K) = true
  l2 : lotB2 K (gO K) = true
  l3 : lotB3 K (gO K) = true
  l4 : lotB4 K (gO K) = true
  l5 : lotB5 K (gO K) = true
  ob : objB K = true
  fo : ∃ fd, FunD K "of" "Lot.of" (defArgs (lSt 2)) (defBody (lSt 2)) (defScope (lSt 2)) [] [] (He5.wf K (gO K) "staticmethod" "of") fd
  fr_ : ∃ fd, FunD K "read" "Lot.read" (defArgs (lSt 3)) (defBody (lSt 3)) (defScope (lSt 3)) [] [] (He5.wf K (gO K) "classmethod" "read") fd
theorem b_fix : Body1 (inClass (top 9) 0) "value" := ⟨⟨_, _, _, _, rfl⟩, rfl, fun _ _ _ _ _ _ _ _ _ => rfl, fun _ _ _ _ _ _ _ _ _ => rfl, by decide, by decide, by decide⟩
theorem b_lot : Body1 (inClass (top 10) 0) "part" := ⟨⟨_, _, _, _, rfl⟩, rfl, fun _ _ _ _ _ _ _ _ _ => rfl, fun _ _ _ _ _ _ _ _ _ => rfl, by decide, by decide, by decide⟩
theorem b_num : Body1 (inClass (top 11) 0) "value" := ⟨⟨_, _, _, _, rfl⟩, rfl, fun _ _ _ _ _ _ _ _ _ => rfl, fun _ _ _ _ _ _ _ _ _ => rfl, by decide, by decide, by decide⟩
theorem b_way : Body1 (inClass (top 13) 0) "value" := ⟨⟨_, _, _, _, rfl⟩, rfl, fun _ _ _ _ _ _ _ _ _ => rfl, fun _ _ _ _ _ _ _ _ _ => rfl, by decide, by decide, by decide⟩
theorem b_unl : Body1 (inClass (top 15) 0) "part" := ⟨⟨_, _, _, _, rfl⟩, rfl, fun _ _ _ _ _ _ _ _ _ => rfl, fun _ _ _ _ _ _ _ _ _ => rfl, by decide, by decide, by decide⟩
theorem b_text : Body2 (inClass (top 12) 0) "line" "word" :=
  ⟨⟨_, _, _, _, _, _, _, _, rfl⟩, ⟨rfl, rfl, rfl, by decide +kernel, rfl, by decide +kernel, by decide +kernel⟩, .inl rfl, .inl rfl, .inl rfl, fun _ _ _ _ _ _ _ _ _ _ => rfl, fun _ _ _ _ _ _ _ _ _ _ => rfl, by decide, by decide, by decide, by decide⟩
theorem b_many : Body2 (inClass (top 14) 0) "what" "most" :=
  ⟨⟨_, _, _, _, _, _, _, _, rfl⟩, ⟨rfl, rfl, rfl, by decide +kernel, rfl, by decide +kernel, by decide +kernel⟩, .inl rfl, .inl rfl, .inl rfl, fun _ _ _ _ _ _ _ _ _ _ => rfl, fun _ _ _ _ _ _ _ _ _ _ => rfl, by decide, by decide, by decide, by decide⟩
theorem kf {P : Program} {w : World} {K : PySem.W.Frag} {h h' : Heap} {mg : Str → Option Value} (X : K.In h) (G : h.Ns mainGlobals mg) (cy : SaysY w h' K) (base : Heap) : KF P w K mg base := by
  have c := cy.x
  have z : exS K = true := c.more
  obtain ⟨zl, z⟩ := ba z
  obtain ⟨zl, zda⟩ := ba zl
  obtain ⟨zl, znd⟩ := ba zl
  obtain ⟨zl1, zl⟩ := ba zl
  obtain ⟨zl2, zl⟩ := ba zl
  obtain ⟨zl3, zl⟩ := ba zl
  obtain ⟨zl4, zl5⟩ := ba zl
  have dA : ∀ {d : He5.DefA}, d ∈ dAs → ∃ fd, FunD K d.name d.qual d.params d.body d.scope (d.dvs K) (d.kws K) (d.at_ K) fd := fun {d} hd => by
    refine d.funD ?_ (List.all_eq_true.mp zda d hd)
    have e := cy.y
    exact List.map_inj_left.mp e d hd
  obtain ⟨z, zx⟩ := ba z
  obtain ⟨z, zin⟩ := ba z
  obtain ⟨z, zer⟩ := ba z
  obtain ⟨z, zob⟩ := ba z
  obtain ⟨ztn, zbm⟩ := ba z
  obtain ⟨bm1, bm⟩ := ba zbm
  obtain ⟨bm2, bm3⟩ := ba bm
  have S : SaysD fas fns K := c.t.d
  have fact : ∀ {f : Fa}, f ∈ fas → f.ok K = true := fun h => S.facts h
  have m1 : ∀ {f : Fa}, f ∈ (freesN.map Fa.free) → f ∈ fas := fun h => List.mem_append_left _ (List.mem_append_left _ (List.mem_append_left _ (List.mem_append_left _ (List.mem_append_left _ (List.mem_append_left _ (List.mem_append_left _ (List.mem_append_left _ h)))))))
  have m2 : ∀ {f : Fa}, f ∈ (topsN.map fun q => Fa.glo q.1) → f ∈ fas := fun h => List.mem_append_left _ (List.mem_append_left _ (List.mem_append_left _ (List.mem_append_left _ (List.mem_append_left _ (List.mem_append_left _ (List.mem_append_left _ (List.mem_append_right _ h)))))))
  have m3 : ∀ {f : Fa}, f ∈ (methN.map fun q => Fa.meth "Words" q.1) → f ∈ fas := fun h => List.mem_append_left _ (List.mem_append_left _ (List.mem_append_left _ (List.mem_append_left _ (List.mem_append_left _ (List.mem_append_left _ (List.mem_append_right _ h))))))
  have m5 : ∀ {f : Fa}, f ∈ (lotN.map fun q => Fa.meth "Lot" q.1) → f ∈ fas := fun h => List.mem_append_left _ (List.mem_append_left _ (List.mem_append_left _ (List.mem_append_left _ (List.mem_append_left _ (List.mem_append_right _ h)))))
  have m6 : ∀ {f : Fa}, f ∈ (noteN.map fun q => Fa.meth "Note" q.1) → f ∈ fas := fun h => List.mem_append_left _ (List.mem_append_left _ (List.mem_append_left _ (List.mem_append_left _ (List.mem_append_right _ h))))
  have m7 : ∀ {f : Fa}, f ∈ (mkN.map fun q => Fa.glo q.1) → f ∈ fas := fun h => List.mem_append_left _ (List.mem_append_left _ (List.mem_append_left _ (List.mem_append_right _ h)))
  have m8 : ∀ {f : Fa}, f ∈ (mkN.map fun q => Fa.cls q.1) → f ∈ fas := fun h => List.mem_append_left _ (List.mem_append_left _ (List.mem_append_right _ h))
  have m9 : ∀ {f : Fa}, f ∈ (mkN.map fun q => Fa.mkr q.1) → f ∈ fas := fun h => List.mem_append_left _ (List.mem_append_right _ h)
  have m4 : ∀ {f : Fa}, f ∈ ([.glo "Words", .cls "Words", .mkr "Words", .noat "Words" "parts", .noat "Words" "line", .noat "Words" "taken", .glo "Lot", .cls "Lot", .mkr "Lot", .noat "Lot" "fixes", .noat "Number" "line", .noat "Number" "at", .noat "Release" "number", .noat "Release" "lot", .noat "Note" "gained", .noat "Note" "lost", .int "LINES" 6, .int "RELEASES" 60] : List Fa) → f ∈ fas := fun h => List.mem_append_right _ h
  have hek : ∀ q ∈ errsN, ErrK K q.1 q.2 := fun q hq => errB_ok (List.all_eq_true.mp zer q hq) zob
  have hgl : ∀ q ∈ errsN, mg q.1 = some (.ref (ga K q.1)) := fun q hq => PySem.W.mg_of X G (hek q hq).nm
  have d1 : ∀ {d : DefD}, d ∈ (topsN.map dTop) → d ∈ fns := fun h => List.mem_append_left _ (List.mem_append_left _ (List.mem_append_left _ (List.mem_append_left _ (List.mem_append_left _ (List.mem_append_left _ h)))))
  have d2 : ∀ {d : DefD}, d ∈ (methN.map dMeth) → d ∈ fns := fun h => List.mem_append_left _ (List.mem_append_left _ (List.mem_append_left _ (List.mem_append_left _ (List.mem_append_left _ (List.mem_append_right _ h)))))
  have d3 : ∀ {d : DefD}, d ∈ (lotN.map dLot) → d ∈ fns := fun h => List.mem_append_left _ (List.mem_append_left _ (List.mem_append_left _ (List.mem_append_left _ (List.mem_append_right _ h))))
  have d6 : ∀ {d : DefD}, d ∈ (noteN.map dNote) → d ∈ fns := fun h => List.mem_append_left _ (List.mem_append_left _ (List.mem_append_left _ (List.mem_append_right _ h)))
  have d7 : ∀ {d : DefD}, d ∈ (mkN.map dMk) → d ∈ fns := fun h => List.mem_append_left _ (List.mem_append_left _ (List.mem_append_right _ h))
  have d4 : ∀ {d : DefD}, d ∈ [dInitW] → d ∈ fns := fun h => List.mem_append_left _ (List.mem_append_right _ h)
  have d5 : ∀ {d : DefD}, d ∈ (iniN.map fun q => dInitE q.1 q.2.1) → d ∈ fns := fun h => List.mem_append_right _ h
  have one : ∀ q ∈ iniN, PySem.W.findIn K (.ref (ga K q.1)) "__init__" = some (some (.ref (ma K (ga K q.1) "__init__"))) ∧ PySem.W.typeIn K (.ref (ma K (ga K q.1) "__init__")) = some (.type "function") ∧ (∀ f ∈ q.2.2, PySem.W.findIn K (.ref (ga K q.1)) f = some none) ∧
      ∃ fd, FunD K "__init__" (q.1 ++ ".__init__") (defArgs (inClass (top q.2.1) 0)) (defBody (inClass (top q.2.1) 0)) (defScope (inClass (top q.2.1) 0)) [] [] (ma K (ga K q.1) "__init__") fd := fun q hq => by
    obtain ⟨i1, i⟩ := ba (List.all_eq_true.mp zin q hq)
    obtain ⟨i2, i3⟩ := ba i
    exact ⟨eqO_ok i1, of_decide_eq_true i2, fun f hf => eqO_ok (List.all_eq_true.mp i3 f hf), S.defs (d5 (List.mem_map_of_mem (f := fun q : Str × Nat × List Str => dInitE q.1 q.2.1) hq))⟩
  refine {
    fr := fun x hx => free_ok X G (fact (m1 (List.mem_map_of_mem hx))), ek := hek, gl := hgl, bf := ?_, bl := ?_, bnu := ?_, bw := ?_, un := ?_, tx := ?_, tm := ?_, tops := fun q hq => ?_,
    gw := glo_ok X G (fact (m4 (by simp))), go := glo_ok X G (fact (m4 (by simp))), cl := cls_ok (fact (m4 (by simp))), clo := cls_ok (fact (m4 (by simp))), mkr := mkr_ok (fact (m4 (by simp))), mko := mkr_ok (fact (m4 (by simp))),
    noP := noat_ok (fact (m4 (by simp))), noL := noat_ok (fact (m4 (by simp))), noT := noat_ok (fact (m4 (by simp))), noF := noat_ok (fact (m4 (by simp))), meth := fun q hq => ⟨?_, ?_⟩, lot := fun q hq => ⟨?_, ?_⟩, ini := ?_,
    gk := fun q hq => ⟨glo_ok X G (fact (m7 (List.mem_map_of_mem (f := fun q : Str × Nat => Fa.glo q.1) hq))), cls_ok (fact (m8 (List.mem_map_of_mem (f := fun q : Str × Nat => Fa.cls q.1) hq))), mkr_ok (fact (m9 (List.mem_map_of_mem (f := fun q : Str × Nat => Fa.mkr q.1) hq)))⟩,
    ik := fun q hq => S.defs (d7 (List.mem_map_of_mem (f := dMk) hq)),
    noLi := noat_ok (fact (m4 (by simp))), noAt := noat_ok (fact (m4 (by simp))), noNu := noat_ok (fact (m4 (by simp))), noLo := noat_ok (fact (m4 (by simp))), noGa := noat_ok (fact (m4 (by simp))), noLs := noat_ok (fact (m4 (by simp))),
    iL := ?_, iR := ?_, note := fun q hq => ⟨?_, ?_⟩, relb := znd,
    tn := of_decide_eq_true ztn, nb := ⟨?_, eqO_ok bm1, of_decide_eq_true bm2, by decide +kernel, bm3⟩, xE := fun q hq => of_decide_eq_true (List.all_eq_true.mp zx q hq),
    l1 := zl1, l2 := zl2, l3 := zl3, l4 := zl4, l5 := zl5, ob := zob, fo := dA (d := dAs[0]) (by simp [dAs]), fr_ := dA (d := dAs[1]) (by simp [dAs]) }
  · obtain ⟨i1, i2, i3, fd, F⟩ := one ("BadFix", 9, ["value"]) (by decide)
    have E := hek ("BadFix", bT) (by decide)
    exact ⟨E, ⟨_, fd, i1, i2, ok_init1 F b_fix E.ox (i3 "value" (by decide)), pos1 F b_fix, kw1 F b_fix⟩, i3 "value" (by decide), hgl ("BadFix", bT) (by decide)⟩
  · obtain ⟨i1, i2, i3, fd, F⟩ := one ("BadLot", 10, ["part"]) (by decide)
    have E := hek ("BadLot", bT) (by decide)
    exact ⟨E, ⟨_, fd, i1, i2, ok_init1 F b_lot E.ox (i3 "part" (by decide)), pos1 F b_lot, kw1 F b_lot⟩, i3 "part" (by decide), hgl ("BadLot", bT) (by decide)⟩
  · obtain ⟨i1, i2, i3, fd, F⟩ := one ("BadNumber", 11, ["value"]) (by decide)
    have E := hek ("BadNumber", bT) (by decide)
    exact ⟨E, ⟨_, fd, i1, i2, ok_init1 F b_num E.ox (i3 "value" (by decide)), pos1 F b_num, kw1 F b_num⟩, i3 "value" (by decide), hgl ("BadNumber", bT) (by decide)⟩
  · obtain ⟨i1, i2, i3, fd, F⟩ := one ("BadWay", 13, ["value"]) (by decide)
    have E := hek ("BadWay", bT) (by decide)
    exact ⟨E, ⟨_, fd, i1, i2, ok_init1 F b_way E.ox (i3 "value" (by decide)), pos1 F b_way, kw1 F b_way⟩, i3 "value" (by decide), hgl ("BadWay", bT) (by decide)⟩
  · obtain ⟨i1, i2, i3, fd, F⟩ := one ("Unlike", 15, ["part"]) (by decide)
    have E := hek ("Unlike", bM) (by decide)
    exact ⟨E, ⟨_, fd, i1, i2, ok_init1 F b_unl E.ox (i3 "part" (by decide)), pos1 F b_unl, kw1 F b_unl⟩, i3 "part" (by decide), hgl ("Unlike", bM) (by decide)⟩
  · obtain ⟨i1, i2, i3, fd, F⟩ := one ("BadText", 12, ["line", "word"]) (by decide)
    have E := hek ("BadText", bT) (by decide)
    exact ⟨E, ⟨_, fd, i1, i2, ok_init2 F b_text E.ox (i3 "line" (by decide)) (i3 "word" (by decide)), pos2 F b_text, kw2 F b_text⟩, i3 "line" (by decide), i3 "word" (by decide), hgl ("BadText", bT) (by decide)⟩
  · obtain ⟨i1, i2, i3, fd, F⟩ := one ("TooMany", 14, ["what", "most"]) (by decide)
    have E := hek ("TooMany", bM) (by decide)
    exact ⟨E, ⟨_, fd, i1, i2, ok_init2 F b_many E.ox (i3 "what" (by decide)) (i3 "most" (by decide)), pos2 F b_many, kw2 F b_many⟩, i3 "what" (by decide), i3 "most" (by decide), hgl ("TooMany", bM) (by decide)⟩
  · obtain ⟨fd, F⟩ := S.defs (d1 (List.mem_map_of_mem (f := dTop) hq))
    exact ⟨fd, F, glo_ok X G (fact (m2 (List.mem_map_of_mem (f := fun q : Str × Nat => Fa.glo q.1) hq)))⟩
  · exact meth_ok (fact (m3 (List.mem_map_of_mem (f := fun q : Str × Nat => Fa.meth "Words" q.1) hq)))
  · exact S.defs (d2 (List.mem_map_of_mem (f := dMeth) hq))
  · exact meth_ok (fact (m5 (List.mem_map_of_mem (f := fun q : Str × Nat => Fa.meth "Lot" q.1) hq)))
  · exact S.defs (d3 (List.mem_map_of_mem (f := dLot) hq))
  · exact S.defs (d4 (d := dInitW) (by simp))
  · exact int_ok X G (fact (m4 (by simp)))
  · exact int_ok X G (fact (m4 (by simp)))
  · exact meth_ok (fact (m6 (List.mem_map_of_mem (f := fun q : Str × Nat => Fa.meth "Note" q.1) hq)))
  · exact S.defs (d6 (List.mem_map_of_mem (f := dNote) hq))
  · exact meth_ok (fact (m3 (List.mem_map_of_mem (f := fun q : Str × Nat => Fa.meth "Words" q.1) (a := (("is_next", 5) : Str × Nat)) (by decide))))
/-! ### raise BadText(line, word) -/
theorem mk3_eq {H : Hp} {a d C : Addr} {fs : List (Str × V)} (na : H a = none) (h : d ≠ a) : upd (L2.del (mkE H a d C fs) a) d (.xd fs) = upd H d (.xd fs) := by
  funext b
  by_cases e : b = d
  · rw [e, upd_same, upd_same]
  · rw [upd_ne e, upd_ne e]
    by_cases e2 : b = a
    · rw [e2, del_same, na]
    · rw [del_ne e2]
      unfold mkE
      rw [upd_ne e2, upd_ne e]
theorem mkb {H : Hp} {C : Addr} {f g : Str} {v u : V} {Q : XK} (q : ∀ d, H d = none → Q (.ref C) (some d) (upd H d (.xd [(g, u), (f, v)]))) :
    [v, u].length ≤ 1000 ∧ ∀ a, H a = none → spE2 C f g (.ref a :: ([v, u] ++ [])) (upd H a (exo a C none))
      (fun v H2 => v = .non ∧ ∃ (d : Addr) (fs : List (Str × V)), H2 a = some (exo a C (some d)) ∧ H2 d = some (exd d fs) ∧ H d = none ∧ Q (.ref C) (some d) (upd (L2.del H2 a) d (.xd fs))) (fun _ _ _ => False) := by
  refine ⟨by show 2 ≤ 1000; decide, fun a na => ⟨a, v, u, rfl, upd_same, fun d hd ne => ⟨rfl, d, [(g, u), (f, v)], ?_⟩⟩⟩
  rw [upd_ne ne] at hd
  rw [mk2_eq ne, mk3_eq na ne]
  exact ⟨(mkE_at ne).ob, (mkE_at ne).dc, hd, q d hd⟩
def tBad (K : PySem.W.Frag) (te te2 : TE) (W : WX) : TS := fun _ σ H => tMkO (gT K) (spE2 (gT K) "line" "word") [] (tCons te (tCons te2 tNil)) σ H fun cls d H' => W cls d σ H'
theorem ps_bad {X : Cx} {W : WX} {e e2 : Expr} {te te2 : TE} {p pos pos2 : Pos} (T : KF X.prog X.w X.K X.mg X.base) (hr : Room 2 X.A) (hc : X.calm = true) (tk : Takes X W) (hg : Gl X "BadText") (he : PE X e te) (he2 : PE X e2 te2)
    (hs : starEach [e, e2] X.env = (false, eval e X.env) :: starEach [e2] X.env := by rfl) (hs2 : starEach [e2] X.env = (false, eval e2 X.env) :: starEach [] X.env := by rfl)
    (hpl : (backTo pos (starEach [e2] X.env)).any (·.1) = false := by rfl) : PS X (.Raise (some (.Call (.Name "BadText" p) [e, e2] [] pos)) none pos2) (tBad X.K te te2 W) := by
  obtain ⟨fI, fd, iC, tI, F1, b1, _⟩ := T.tx.mkr
  exact ps_raise hc tk (pmk_oex (dvs := []) T.tx.e.ox iC tI F1 hr b1 .nil (fun _ _ _ _ _ _ _ z => z.elim) hg T.tx.gl (pa_cons he (pa_cons he2 pa_nil (hs := hs2)) (hs := hs)) (by decide) hs hpl)
end K6
set_option Elab.async false
set_option linter.all false
set_option maxRecDepth 100000
set_option maxHeartbeats 1000000
/-! raise X(v), raise X(v, u): an own error with its fields. -/
namespace K6
open PySem PySem.Spec PyProof.Rows L2 RV EV He EF EI
/-- what X(v) tells to those that catch it -/
def Bad1 (C : Addr) (f : Str) (H : Hp) (E : XK) (v : V) : Prop := ∀ d, H d = none → E (.ref C) (some d) (upd H d (.xd [(f, v)]))
def Bad2 (C : Addr) (f g : Str) (H : Hp) (E : XK) (v u : V) : Prop := ∀ d, H d = none → E (.ref C) (some d) (upd H d (.xd [(g, u), (f, v)]))
theorem mkb1 {H : Hp} {C : Addr} {f : Str} {v : V} {Q : XK} (q : Bad1 C f H Q v) : [v].length ≤ 1000 ∧ ∀ a, H a = none → spE1 C f (.ref a :: ([v] ++ [])) (upd H a (exo a C none))
      (fun z H2 => z = .non ∧ ∃ (d : Addr) (fs : List (Str × V)), H2 a = some (exo a C (some d)) ∧ H2 d = some (exd d fs) ∧ H d = none ∧ Q (.ref C) (some d) (upd (L2.del H2 a) d (.xd fs))) (fun _ _ _ => False) := by
  refine ⟨by show 1 ≤ 1000; decide, fun a na => ⟨a, v, rfl, upd_same, fun d hd ne => ⟨rfl, d, [(f, v)], ?_⟩⟩⟩
  rw [upd_ne ne] at hd
  rw [mk1_eq ne, mk3_eq na ne]
  exact ⟨(mkE_at ne).ob, (mkE_at ne).dc, hd, q d hd⟩
theorem mkb2 {H : Hp} {C : Addr} {f g : Str} {v u : V} {Q : XK} (q : Bad2 C f g H Q v u) : [v, u].length ≤ 1000 ∧ ∀ a, H a = none → spE2 C f g (.ref a :: ([v, u] ++ [])) (upd H a (exo a C none))
      (fun v H2 => v = .non ∧ ∃ (d : Addr) (fs : List (Str × V)), H2 a = some (exo a C (some d)) ∧ H2 d = some (exd d fs) ∧ H d = none ∧ Q (.ref C) (some d) (upd (L2.del H2 a) d (.xd fs))) (fun _ _ _ => False) := mkb q
def tRaise1 (C : Addr) (f : Str) (te : TE) (W : WX) : TS := fun _ σ H => tMkO C (spE1 C f) [] (tCons te tNil) σ H fun cls d H' => W cls d σ H'
def tRaise2 (C : Addr) (f g : Str) (te te2 : TE) (W : WX) : TS := fun _ σ H => tMkO C (spE2 C f g) [] (tCons te (tCons te2 tNil)) σ H fun cls d H' => W cls d σ H'
section
variable {X : Cx} {W : WX} {e e2 : Expr} {te te2 : TE} {p pos pos2 : Pos} {x f g : Str} {bs : List Str}
theorem ps_raise1 (T : Cl1 X.prog X.w X.K X.mg X.base x f bs) (hr : Room 2 X.A) (hc : X.calm = true) (tk : Takes X W) (hg : Gl X x) (he : PE X e te)
    (hs : starEach [e] X.env = (false, eval e X.env) :: starEach [] X.env := by rfl) (hpl : (backTo pos (starEach [] X.env)).any (·.1) = false := by rfl) (hdb : (x == ("__debug__" : Str)) = false := by decide) :
    PS X (.Raise (some (.Call (.Name x p) [e] [] pos)) none pos2) (tRaise1 (ga X.K x) f te W) := by
  obtain ⟨fI, fd, iC, tI, F1, b1, _⟩ := T.mkr
  exact ps_raise hc tk (pmk_oex (dvs := []) T.e.ox iC tI F1 hr b1 .nil (fun _ _ _ _ _ _ _ z => z.elim) hg T.gl (pa_cons he pa_nil (hs := hs)) hdb hs hpl)
theorem ps_raise2 (T : Cl2 X.prog X.w X.K X.mg X.base x f g bs) (hr : Room 2 X.A) (hc : X.calm = true) (tk : Takes X W) (hg : Gl X x) (he : PE X e te) (he2 : PE X e2 te2)
    (hs : starEach [e, e2] X.env = (false, eval e X.env) :: starEach [e2] X.env := by rfl) (hs2 : starEach [e2] X.env = (false, eval e2 X.env) :: starEach [] X.env := by rfl)
    (hpl : (backTo pos (starEach [e2] X.env)).any (·.1) = false := by rfl) (hdb : (x == ("__debug__" : Str)) = false := by decide) : PS X (.Raise (some (.Call (.Name x p) [e, e2] [] pos)) none pos2) (tRaise2 (ga X.K x) f g te te2 W) := by
  obtain ⟨fI, fd, iC, tI, F1, b1, _⟩ := T.mkr
  exact ps_raise hc tk (pmk_oex (dvs := []) T.e.ox iC tI F1 hr b1 .nil (fun _ _ _ _ _ _ _ z => z.elim) hg T.gl (pa_cons he (pa_cons he2 pa_nil (hs := hs2)) (hs := hs)) hdb hs hpl)
end
end K6
set_option Elab.async false
set_option linter.all false
set_option maxRecDepth 100000
set_option maxHeartbeats 1000000
namespace K6
open PySem PySem.Spec PyProof.Rows L2 RV EV He EF EI
/-! The class Words: is_next, step, refuse, end. -/
/-- a Words at p: its parts at tp, its line, how many were taken -/
structure WO (K : PySem.W.Frag) (H : Hp) (p dx tp : Addr) (ws : List Str) (ln : Int) (t : Nat) : Prop where
  ob : H p = some (.ins (gW K) dx [("parts", .ref tp), ("line", .int ln), ("taken", .int t)])
  ps : H tp = some (.tup (ws.map V.str))
  le : t ≤ ws.length
  lz : ws.length ≤ 1000
def Same2 (H H' : Hp) (p : Addr) : Prop := ∀ c o, c ≠ p → H c = some o → H' c = some o
theorem WO.same {K : PySem.W.Frag} {H H' : Hp} {p dx tp : Addr} {ws : List Str} {ln : Int} {t : Nat} (O : WO K H p dx tp ws ln t) (s : Same H H') : WO K H' p dx tp ws ln t := ⟨s _ _ O.ob, s _ _ O.ps, O.le, O.lz⟩
theorem WO.ne {K : PySem.W.Frag} {H : Hp} {p dx tp : Addr} {ws : List Str} {ln : Int} {t : Nat} (O : WO K H p dx tp ws ln t) : tp ≠ p := ne_of O.ps O.ob (fun z => nomatch z)
def nextB (ws : List Str) (t : Nat) (ss : List Str) : Bool := decide (t < ws.length) && (ss.isEmpty || decide (ws.getD t "" ∈ ss))
theorem getD_at {ws : List Str} {t : Nat} (h : t < ws.length) : ws[t]? = some (ws.getD t "") := by
  rw [List.getD_eq_getElem?_getD, List.getElem?_eq_getElem h]
  rfl
theorem inV_str (x : Str) (ss : List Str) : inV (.str x) (ss.map V.str) = decide (x ∈ ss) := by
  unfold inV
  induction ss with
  | nil => rfl
  | cons s ss ih =>
    rw [List.map_cons, List.any_cons, ih]
    have e : eqV (.str s) (.str x) = decide (s = x) := by
      unfold eqV
      rfl
    rw [e]
    by_cases h : s = x
    · simp [h]
    · have h2 : x ≠ s := fun z => h z.symm
      simp [h, h2]
theorem flat_strs (ss : List Str) : (ss.map V.str).all flatV = true := by
  rw [List.all_eq_true]
  intro v hv
  obtain ⟨s, _, rfl⟩ := List.mem_map.mp hv
  rfl
/-- o.m(), by a positional promise -/
theorem pe_meth0R {X : Cx} {CX : CXT} {k : Nat} {C f : Addr} {m : Str} {sp : Sp} {E : XK} {o : Expr} {ta : TE} {apos pos : Pos} {pl : Sem Bool} (he : PE X o ta) (c : Cls X.K C) (hm : Meth X.K C m f)
    (F : FnR X.prog X.w X.K X.mg X.base CX k f sp) (hr : Room k X.A) (hx : Passes CX X E)
    (ht : eval (.Call (.Attribute o m apos) [] [] pos) X.env = (do
      let u ← eval o X.env
      standAt apos.atName
      let (g, one) ← holding [u] (getMethod u m pl)
      callWith pos g one (backTo pos (starEach [] X.env)) (backToKw pos (keywordEach [] X.env))) := by rfl) :
    PE X (.Call (.Attribute o m apos) [] [] pos) (tMethR C m sp E ta tNil) := by
  refine ⟨fun pins s σ H Q I h => PySem.W.methodCall_KW (pl := pl) (thn (he.run pins s σ H _ I h) fun v s1 hv => ?_) ht⟩
  obtain ⟨x, H1, I1, rx, a, dx, fs, rfl, ea, l, q⟩ := hv
  obtain rfl : v = Value.ref a := rx
  exact getmeth_ok I1 ea c hm l (PySem.W.callWith_K0 (first := [.ref a]) I1.kIn hm.kp (wpAny_call (run_fnR (us := [.ref a]) (vs := [.ref a]) F hr hx I1 (.cons rfl .nil) q)))
def spNext0 (K : PySem.W.Frag) : Sp := fun vs H Q _ => ∃ p dx tp ws ln t T ss, vs = [.ref p, .ref T] ∧ WO K H p dx tp ws ln t ∧ H T = some (.tup (ss.map V.str)) ∧ ss.length ≤ 5 ∧ Q (.bl (nextB ws t ss)) H
def spStar (sp : Sp) : Sp := fun vs H Q E => ∃ ws rest, vs = ws ++ rest ∧ ws.length = (["self"] : List Str).length ∧ rest.length ≤ sizeLine ∧ ∀ p, H p = none → sp (ws ++ [V.ref p]) (upd H p (.tup rest)) Q E
section
variable {P : Program} {w : World} {K : PySem.W.Frag} {mg : Str → Option Value} {base : Heap}
abbrev mAd (K : PySem.W.Frag) (m : Str) : Addr := ma K (gW K) m
abbrev scNx_N : List Str := ["self", "some"]
theorem scNx : FnScope scNx_N ["self", "some"] (defScope (wSt 5)) := ⟨rfl, rfl, rfl, by decide +kernel, rfl, by decide +kernel, by decide +kernel⟩
theorem ok_next (T : KF P w K mg base) : FnR P w K mg base CX0 1 (mAd K "is_next") (spStar (spNext0 K)) := by
  obtain ⟨_, fd, F⟩ := T.meth ("is_next", 5) (by decide)
  obtain ⟨oc, od, dV, kV, doc, pm, an, cdv, ct, osl, rfl, lk, hcd, hD, hK⟩ := F.ex
  rcases hD with ⟨_, rfl⟩ | ⟨e, _⟩
  case inr => exact absurd rfl e
  refine StX.fn_star (ps := ["self"]) (pv := "some") lk hcd scNx StX.cxUp_none (StX.bind_star1 (B := fun us => bindArgs _ ⟨us, []⟩) (fun a => rfl) fun a r rs => rfl) fun A outer s H vs Q E hr h => ?_
  obtain ⟨p, dx, tp, ws, ln, t, T', ss, rfl, O, hT, hz, k⟩ := h
  refine ⟨_, PSs.nox (pss_cons (ps_if (pt_cmpR op_eq (pe_fld (pv 0) rfl) (pe_callB call_len_seq (by rfl) (T.fr "len" (by decide)) PySem.boot_len (pa_cons (pe_fld (pv 0) rfl) pa_nil)) (nomark _)) (pss_one (ps_ret pe_bl)) pss_nil)
    (pss_one (ps_ret (pe_or (pe_notT (pv 1)) (pe_one (pe_cmpR op_in_seq (pe_ix ix_tup (pe_fld (pv 0) rfl) (pe_fld (pv 0) rfl) (fun _ _ => rfl)) (pv 1) rfl)))))), ?_⟩
  refine ⟨_, rfl, p, _, dx, _, _, rfl, O.ob, T.cl, T.noT, rfl, _, rfl, p, _, dx, _, _, rfl, O.ob, T.cl, T.noP, rfl, tp, _, rfl, .inr (SqT.of O.ps), rfl, _, rfl, ?_⟩
  have e0 : (V.int (t : Int) = V.int ((ws.map V.str).length : Nat)) ↔ t = ws.length := by
    rw [List.length_map]
    constructor
    · intro z
      have := V.int.inj z
      omega
    · rintro rfl; rfl
  unfold nextB at k
  by_cases h0 : t = ws.length
  · refine if_posB (decide_eq_true (e0.mpr h0)) ?_
    rw [decide_eq_false (by omega), Bool.false_and] at k
    exact k
  · have ht : t < ws.length := by have := O.le; omega
    refine if_negB (decide_eq_false fun z => h0 (e0.mp z)) ⟨_, rfl, !(ss.map V.str).isEmpty, ?_, ?_⟩
    · exact .inr (.inl ⟨_, SqT.of hT, rfl⟩)
    · rw [decide_eq_true ht, Bool.true_and] at k
      cases e : ss.isEmpty with
      | true =>
        rw [e, Bool.true_or] at k
        have e2 : (ss.map V.str).isEmpty = true := by simpa using e
        rw [e2]
        exact ⟨_, rfl, if_posB rfl k⟩
      | false =>
        rw [e, Bool.false_or] at k
        have e2 : (ss.map V.str).isEmpty = false := by simpa using e
        rw [e2]
        refine ⟨_, rfl, if_negB rfl ⟨_, rfl, p, _, dx, _, _, rfl, O.ob, T.cl, T.noP, rfl, _, rfl, p, _, dx, _, _, rfl, O.ob, T.cl, T.noT, rfl, tp, _, _, .str (ws.getD t ""), rfl, rfl, SqT.of O.ps, atI_nat ?_, _, rfl, T', _, rfl, .inr (SqT.of hT), rfl, flat_strs ss, ?_⟩⟩
        · rw [List.getElem?_map, getD_at ht]
          rfl
        · show Q (.bl (inV (.str (ws.getD t "")) (ss.map V.str))) H
          rw [inV_str]
          exact k
/-- is_next called with the words ss -/
theorem nxt_of {H : Hp} {Q : VK} {E : XK} {p dx tp : Addr} {ws : List Str} {ln : Int} {t : Nat} (ss : List Str) (O : WO K H p dx tp ws ln t) (hz : ss.length ≤ 5) (k : ∀ H', Same H H' → Q (.bl (nextB ws t ss)) H') :
    spStar (spNext0 K) (.ref p :: ss.map V.str) H Q E := by
  refine ⟨[.ref p], ss.map V.str, rfl, rfl, by rw [List.length_map, sizeLine_eq]; omega, fun T nT => ?_⟩
  have s := same_new (o := .tup (ss.map V.str)) nT
  exact ⟨p, dx, tp, ws, ln, t, T, ss, rfl, O.same s, upd_same, hz, k _ s⟩
/-! step -/
def spStep (K : PySem.W.Frag) : Sp := fun vs H Q _ => ∃ p dx tp ws ln t, vs = [.ref p] ∧ WO K H p dx tp ws ln t ∧ t < ws.length ∧ ∀ H', Same2 H H' p → WO K H' p dx tp ws ln (t + 1) → Q (.str (ws.getD t "")) H'
abbrev scSt_N : List Str := ["self", "word"]
theorem scSt : FnScope scSt_N ["self"] (defScope (wSt 10)) := ⟨rfl, rfl, rfl, by decide +kernel, rfl, by decide +kernel, by decide +kernel⟩
theorem methF (T : KF P w K mg base) {q : Str × Nat} (h : q ∈ methN) : ∃ fd, FunD K q.1 ("Words." ++ q.1) (defArgs (wSt q.2)) (defBody (wSt q.2)) (defScope (wSt q.2)) [] [] (mAd K q.1) fd := (T.meth q h).2
theorem ok_step (T : KF P w K mg base) {fd : FuncData} (F : FunD K "step" "Words.step" (defArgs (wSt 10)) (defBody (wSt 10)) (defScope (wSt 10)) [] [] (mAd K "step") fd) : FnOk P w K mg base CX0 1 (mAd K "step") fd ["self"] (spStep K) := by
  refine F.ok scSt (fun vs H Q E h => ?_) (fun cdv A outer s H vs Q E hr h => ?_)
  · obtain ⟨p, dx, tp, ws, ln, t, rfl, _⟩ := h
    rfl
  · obtain ⟨p, dx, tp, ws, ln, t, rfl, O, ht, k⟩ := h
    refine ⟨_, PSs.nox (pss_cons (ps_set (i := 1) scSt.nd rfl (.inl rfl) (pe_ix ix_tup (pe_fld (pv 0) rfl) (pe_fld (pv 0) rfl) (fun _ _ => rfl))) (pss_cons (ps_fldaug (pv 0) pe_int in_add) (pss_one (ps_ret (pv 1))))), ?_⟩
    refine ⟨_, rfl, p, _, dx, _, _, rfl, O.ob, T.cl, T.noP, rfl, _, rfl, p, _, dx, _, _, rfl, O.ob, T.cl, T.noT, rfl, tp, _, _, .str (ws.getD t ""), rfl, rfl, SqT.of O.ps, atI_nat ?_, ?_⟩
    · rw [List.getElem?_map, getD_at ht]
      rfl
    · have O2 : WO K (upd H p (.ins (gW K) dx [("parts", .ref tp), ("line", .int ln), ("taken", .int ((t : Int) + 1))])) p dx tp ws ln (t + 1) := ⟨by rw [upd_same]; rfl, by rw [upd_ne O.ne]; exact O.ps, ht, O.lz⟩
      refine ⟨_, rfl, p, gW K, dx, _, _, rfl, O.ob, T.cl, T.noT, rfl, _, _, rfl, rfl, _, _, O.ob, by show 3 < 1000; decide, ?_⟩
      exact ⟨_, rfl, k _ (fun c o hc e => by rw [upd_ne hc]; exact e) O2⟩
/-! refuse -/
/-- what BadText(ln, wd) tells, to those that catch it -/
def BadE (K : PySem.W.Frag) (H : Hp) (E : XK) (ln wd : V) : Prop := ∀ d, H d = none → E (.ref (gT K)) (some d) (upd H d (.xd [("word", wd), ("line", ln)]))
def spRefuse (K : PySem.W.Frag) : Sp := fun vs H _ E => ∃ p dx tp ws ln t, vs = [.ref p] ∧ WO K H p dx tp ws ln t ∧ BadE K H E (.int ln) (.int t)
theorem scRf : FnScope ["self"] ["self"] (defScope (wSt 11)) := ⟨rfl, rfl, rfl, by decide +kernel, rfl, by decide +kernel, by decide +kernel⟩
theorem ok_refuse (T : KF P w K mg base) {fd : FuncData} (F : FunD K "refuse" "Words.refuse" (defArgs (wSt 11)) (defBody (wSt 11)) (defScope (wSt 11)) [] [] (mAd K "refuse") fd) : FnOk P w K mg base (L2.CX P w) 3 (mAd K "refuse") fd ["self"] (spRefuse K) := by
  refine F.ok scRf (fun vs H Q E h => ?_) (fun cdv A outer s H vs Q E hr h => ?_)
  · obtain ⟨p, dx, tp, ws, ln, t, rfl, _⟩ := h
    rfl
  · obtain ⟨p, dx, tp, ws, ln, t, rfl, O, k⟩ := h
    refine ⟨_, pss_one (ps_bad T hr rfl (takes_of rfl rfl rfl rfl) (by rfl) (pe_fld (pv 0) rfl) (pe_fld (pv 0) rfl)), ?_⟩
    refine ⟨_, rfl, p, _, dx, _, _, rfl, O.ob, T.cl, T.noL, rfl, _, rfl, p, _, dx, _, _, rfl, O.ob, T.cl, T.noT, rfl, ?_⟩
    exact mkb k
end
end K6
set_option Elab.async false
set_option linter.all false
set_option maxRecDepth 100000
set_option maxHeartbeats 1000000
namespace K6
open PySem PySem.Spec PyProof.Rows L2 RV EV He EF EI
/-! The class Words: take, end, take_by, take_fix, take_number. -/
theorem _root_.L2.FnOk.up0 {P : Program} {w : World} {K : PySem.W.Frag} {mg : Str → Option Value} {base : Heap} {CX : CXT} {k : Nat} {f : Addr} {fd : FuncData} {ps : List Str} {sp : Sp} (F : FnOk P w K mg base CX0 k f fd ps sp) : FnOk P w K mg base CX k f fd ps sp :=
  ⟨F.len, fun A outer s H args us vs Q E hr e0 hb r h => codeAny_mono (F.run A outer s H args us vs Q E hr e0 hb r h) fun rs s' hq => by
    cases rs with
    | error e => exact (show False from hq).elim
    | ok fl => cases fl <;> exact hq⟩
/-- the next word is taken, or refused -/
structure Out (K : PySem.W.Frag) (H : Hp) (p dx tp : Addr) (ws : List Str) (ln : Int) (t : Nat) (b : Bool) (v : V) (Q : VK) (E : XK) : Prop where
  yes : b = true → ∀ H', Same2 H H' p → WO K H' p dx tp ws ln (t + 1) → Q v H'
  no : b = false → ∀ H', Same H H' → BadE K H' E (.int ln) (.int t)
theorem Same.two {H H1 H2 : Hp} {p : Addr} (a : Same H H1) (b : Same2 H1 H2 p) : Same2 H H2 p := fun c o hc e => b c o hc (a c o e)
theorem nextB_lt {ws : List Str} {t : Nat} {ss : List Str} (h : nextB ws t ss = true) : t < ws.length := of_decide_eq_true (Bool.and_eq_true_iff.mp h).1
def spTake0 (K : PySem.W.Frag) : Sp := fun vs H Q E => ∃ p dx tp ws ln t T ss, vs = [.ref p, .ref T] ∧ WO K H p dx tp ws ln t ∧ H T = some (.tup (ss.map V.str)) ∧ ss.length ≤ 5 ∧ Out K H p dx tp ws ln t (nextB ws t ss) (.str (ws.getD t "")) Q E
section
variable {P : Program} {w : World} {K : PySem.W.Frag} {mg : Str → Option Value} {base : Heap}
/-- the methods as they are called -/
structure MC (P : Program) (w : World) (K : PySem.W.Frag) (mg : Str → Option Value) (base : Heap) : Prop where
  nx : FnR P w K mg base CX0 1 (mAd K "is_next") (spStar (spNext0 K))
  st : ∃ fd, FnOk P w K mg base CX0 1 (mAd K "step") fd ["self"] (spStep K) ∧ L2.Binds K fd ["self"] []
  rf : ∃ fd, FnOk P w K mg base (L2.CX P w) 3 (mAd K "refuse") fd ["self"] (spRefuse K) ∧ L2.Binds K fd ["self"] []
theorem mc (T : KF P w K mg base) : MC P w K mg base := by
  obtain ⟨_, f1, F1⟩ := T.meth ("step", 10) (by decide)
  obtain ⟨_, f2, F2⟩ := T.meth ("refuse", 11) (by decide)
  exact ⟨ok_next T, ⟨f1, ok_step T F1, FunD.bindsN F1 fun _ _ _ _ _ _ us hl => match us, hl with | [_], _ => rfl⟩, ⟨f2, ok_refuse T F2, FunD.bindsN F2 fun _ _ _ _ _ _ us hl => match us, hl with | [_], _ => rfl⟩⟩
theorem mt (T : KF P w K mg base) (q : Str × Nat) (h : q ∈ methN) : Meth K (gW K) q.1 (mAd K q.1) := (T.meth q h).1
abbrev scTk_N : List Str := ["self", "some"]
theorem scTk : FnScope scTk_N ["self", "some"] (defScope (wSt 6)) := ⟨rfl, rfl, rfl, by decide +kernel, rfl, by decide +kernel, by decide +kernel⟩
theorem ok_take (T : KF P w K mg base) : FnR P w K mg base (L2.CX P w) 4 (mAd K "take") (spStar (spTake0 K)) := by
  obtain ⟨_, fd, F⟩ := T.meth ("take", 6) (by decide)
  obtain ⟨nx, ⟨fS, GS, bS⟩, ⟨fR, GR, bR⟩⟩ := mc T
  obtain ⟨oc, od, dV, kV, doc, pm, an, cdv, ct, osl, rfl, lk, hcd, hD, hK⟩ := F.ex
  rcases hD with ⟨_, rfl⟩ | ⟨e, _⟩
  case inr => exact absurd rfl e
  refine StX.fn_star (ps := ["self"]) (pv := "some") lk hcd scTk StX.cxUp (StX.bind_star1 (B := fun us => bindArgs _ ⟨us, []⟩) (fun a => rfl) fun a r rs => rfl) fun A outer s H vs Q E hr h => ?_
  obtain ⟨p, dx, tp, ws, ln, t, T', ss, rfl, O, hT, hz, k⟩ := h
  refine ⟨_, pss_cons (ps_if (pt_not (pt_val (pe_methS (E := E0) (pv 0) T.cl T.nb nx (hr.mono (by decide)) pass0 (pv 1))))
      (pss_one (ps_expr (pe_meth0 (E := E) (pv 0) T.cl (mt T ("refuse", 11) (by decide)) GR hr bR .nil (passes_call (takes_of rfl rfl rfl rfl) fun _ _ _ _ h => h)))) pss_nil)
    (pss_one (ps_ret (pe_meth0 (E := E0) (pv 0) T.cl (mt T ("step", 10) (by decide)) GS (hr.mono (by decide)) bS .nil pass0))), ?_⟩
  refine ⟨_, rfl, p, dx, _, rfl, O.ob, rfl, fun q nq => ?_⟩
  have s1 := same_new (o := .met (mAd K "is_next") p) nq
  refine ⟨_, rfl, T', _, rfl, SqT.of (s1 _ _ hT), upd_same, nxt_of ss (O.same s1) hz fun H2 s2 => ⟨nextB ws t ss, rfl, ?_⟩⟩
  have s2 := s1.trans s2
  have O2 := O.same s2
  cases e : nextB ws t ss with
  | true => exact if_negB rfl ⟨_, rfl, p, dx, _, rfl, O2.ob, rfl, p, dx, tp, ws, ln, t, rfl, O2, nextB_lt e, fun H3 s3 O3 => k.yes e H3 (Same.two s2 s3) O3⟩
  | false => exact if_posB rfl ⟨_, rfl, p, dx, _, rfl, O2.ob, rfl, p, dx, tp, ws, ln, t, rfl, O2, k.no e H2 s2⟩
theorem tak_of {H : Hp} {Q : VK} {E : XK} {p dx tp : Addr} {ws : List Str} {ln : Int} {t : Nat} (ss : List Str) (O : WO K H p dx tp ws ln t) (hz : ss.length ≤ 5) (k : Out K H p dx tp ws ln t (nextB ws t ss) (.str (ws.getD t "")) Q E) :
    spStar (spTake0 K) (.ref p :: ss.map V.str) H Q E := by
  refine ⟨[.ref p], ss.map V.str, rfl, rfl, by rw [List.length_map, sizeLine_eq]; omega, fun T nT => ?_⟩
  have s := same_new (o := .tup (ss.map V.str)) nT
  exact ⟨p, dx, tp, ws, ln, t, T, ss, rfl, O.same s, upd_same, hz, ⟨fun e H' s' O' => k.yes e H' (Same.two s s') O', fun e H' s' => k.no e H' (s.trans s')⟩⟩
/-! end -/
def spEnd (K : PySem.W.Frag) : Sp := fun vs H Q E => ∃ p dx tp ws ln t, vs = [.ref p] ∧ WO K H p dx tp ws ln t ∧ (t = ws.length → ∀ H', Same H H' → Q .non H') ∧ (t < ws.length → ∀ H', Same H H' → BadE K H' E (.int ln) (.int t))
theorem scEn : FnScope ["self"] ["self"] (defScope (wSt 13)) := ⟨rfl, rfl, rfl, by decide +kernel, rfl, by decide +kernel, by decide +kernel⟩
theorem ok_end (T : KF P w K mg base) {fd : FuncData} (F : FunD K "end" "Words.end" (defArgs (wSt 13)) (defBody (wSt 13)) (defScope (wSt 13)) [] [] (mAd K "end") fd) : FnOk P w K mg base (L2.CX P w) 4 (mAd K "end") fd ["self"] (spEnd K) := by
  obtain ⟨nx, ⟨fS, GS, bS⟩, ⟨fR, GR, bR⟩⟩ := mc T
  refine F.ok scEn (fun vs H Q E h => ?_) (fun cdv A outer s H vs Q E hr h => ?_)
  · obtain ⟨p, dx, tp, ws, ln, t, rfl, _⟩ := h
    rfl
  · obtain ⟨p, dx, tp, ws, ln, t, rfl, O, k1, k2⟩ := h
    refine ⟨_, pss_one (ps_if (pt_val (pe_meth0R (E := E0) (pv 0) T.cl (mt T ("is_next", 5) (by decide)) nx (hr.mono (by decide)) pass0))
      (pss_one (ps_expr (pe_meth0 (E := E) (pv 0) T.cl (mt T ("refuse", 11) (by decide)) GR hr bR .nil (passes_call (takes_of rfl rfl rfl rfl) fun _ _ _ _ h => h)))) pss_nil), ?_⟩
    refine ⟨_, rfl, p, dx, _, rfl, O.ob, rfl, nxt_of [] O (by decide) fun H2 s2 => ⟨_, rfl, ?_⟩⟩
    by_cases h : t < ws.length
    · refine if_posB (by unfold nextB; rw [decide_eq_true h]; rfl) ⟨_, rfl, p, dx, _, rfl, (O.same s2).ob, rfl, p, dx, tp, ws, ln, t, rfl, O.same s2, k2 h H2 s2⟩
    · have := O.le
      refine if_negB (by unfold nextB; rw [decide_eq_false h]; rfl) (k1 (by omega) H2 s2)
/-! take_by -/
def spBy (K : PySem.W.Frag) (r : Addr) (spr : Sp) : Sp := fun vs H Q E => ∃ p dx tp ws ln t, vs = [.ref p, .ref r] ∧ WO K H p dx tp ws ln t ∧ (t = ws.length → ∀ H', Same H H' → BadE K H' E (.int ln) (.int t)) ∧
  (t < ws.length → ∀ (H1 : Hp) (Q1 : VK), Same H H1 → (∀ b H2, Same H1 H2 → Out K H2 p dx tp ws ln t b (.str (ws.getD t "")) Q E → Q1 (.bl b) H2) → spr [.str (ws.getD t "")] H1 Q1 E)
abbrev scBy_N : List Str := ["self", "rule"]
theorem scBy : FnScope scBy_N ["self", "rule"] (defScope (wSt 9)) := ⟨rfl, rfl, rfl, by decide +kernel, rfl, by decide +kernel, by decide +kernel⟩
theorem ok_by (T : KF P w K mg base) {fd fdr : FuncData} {r : Addr} {psr : List Str} {spr : Sp} {kr : Nat} (F : FunD K "take_by" "Words.take_by" (defArgs (wSt 9)) (defBody (wSt 9)) (defScope (wSt 9)) [] [] (mAd K "take_by") fd)
    (R : FnOk P w K mg base (L2.CX P w) kr r fdr psr spr) (hk : kr ≤ 3) (kp : PySem.W.keepIn K (.ref r) = true) (br : L2.Binds K fdr psr []) : FnOk P w K mg base (L2.CX P w) 4 (mAd K "take_by") fd ["self", "rule"] (spBy K r spr) := by
  obtain ⟨nx, ⟨fS, GS, bS⟩, ⟨fR, GR, bR⟩⟩ := mc T
  refine F.ok scBy (fun vs H Q E h => ?_) (fun cdv A outer s H vs Q E hr h => ?_)
  · obtain ⟨p, dx, tp, ws, ln, t, rfl, _⟩ := h
    rfl
  · obtain ⟨p, dx, tp, ws, ln, t, rfl, O, k1, k2⟩ := h
    refine ⟨_, pss_cons (ps_if (PW.pt (pw_or (pt_not (pt_val (pe_meth0R (E := E0) (pv 0) T.cl (mt T ("is_next", 5) (by decide)) nx (hr.mono (by decide)) pass0)))
          (pw_or1 (pt_cmpR op_isnot_bl (pe_callL (i := 1) (f := r) (E := E) (dvs := []) R (hr.mono hk) rfl (.inl rfl) kp br .nil (passes_call (takes_of rfl rfl rfl rfl) fun _ _ _ _ h => h) (pa_cons (pe_ix ix_tup (pe_fld (pv 0) rfl) (pe_fld (pv 0) rfl) (fun _ _ => rfl)) pa_nil)) pe_bl (nomark _)))))
        (pss_one (ps_expr (pe_meth0 (E := E) (pv 0) T.cl (mt T ("refuse", 11) (by decide)) GR hr bR .nil (passes_call (takes_of rfl rfl rfl rfl) fun _ _ _ _ h => h)))) pss_nil)
      (pss_one (ps_ret (pe_meth0 (E := E0) (pv 0) T.cl (mt T ("step", 10) (by decide)) GS (hr.mono (by decide)) bS .nil pass0))), ?_⟩
    refine ⟨_, rfl, p, dx, _, rfl, O.ob, rfl, nxt_of [] O (by decide) fun H1 s1 => ⟨nextB ws t [], rfl, ?_⟩⟩
    have O1 := O.same s1
    by_cases h : t < ws.length
    · rw [show nextB ws t [] = true by unfold nextB; rw [decide_eq_true h]; rfl]
      refine if_negB rfl ⟨rfl, _, rfl, p, _, dx, _, _, rfl, O1.ob, T.cl, T.noP, rfl, _, rfl, p, _, dx, _, _, rfl, O1.ob, T.cl, T.noT, rfl, tp, _, _, .str (ws.getD t ""), rfl, rfl, SqT.of O1.ps, atI_nat ?_, ?_⟩
      · rw [List.getElem?_map, getD_at h]
        rfl
      · refine k2 h H1 _ s1 fun b H2 s2 o => ⟨b, true, rfl, rfl, _, rfl, ?_⟩
        have O2 := O1.same s2
        cases b with
        | true => exact if_negB rfl ⟨_, rfl, p, dx, _, rfl, O2.ob, rfl, p, dx, tp, ws, ln, t, rfl, O2, h, fun H3 s3 O3 => o.yes rfl H3 s3 O3⟩
        | false => exact if_posB rfl ⟨_, rfl, p, dx, _, rfl, O2.ob, rfl, p, dx, tp, ws, ln, t, rfl, O2, o.no rfl H2 fun _ _ e => e⟩
    · rw [show nextB ws t [] = false by unfold nextB; rw [decide_eq_false h]; rfl]
      have := O.le
      exact if_posB rfl (if_posB rfl ⟨_, rfl, p, dx, _, rfl, O1.ob, rfl, p, dx, tp, ws, ln, t, rfl, O1, k1 (by omega) H1 s1⟩)
theorem Out.same {H H1 : Hp} {p dx tp : Addr} {ws : List Str} {ln : Int} {t : Nat} {b : Bool} {v : V} {Q : VK} {E : XK} (o : Out K H p dx tp ws ln t b v Q E) (s : Same H H1) : Out K H1 p dx tp ws ln t b v Q E :=
  ⟨fun e H' s' O' => o.yes e H' (Same.two s s') O', fun e H' s' => o.no e H' (s.trans s')⟩
/-! take_fix -/
def spTFix (K : PySem.W.Frag) : Sp := fun vs H Q E => ∃ p dx tp ws ln t, vs = [.ref p] ∧ WO K H p dx tp ws ln t ∧ (∀ x ∈ ws, x.length ≤ 1000000) ∧ Out K H p dx tp ws ln t (decide (t < ws.length) && isFixB (ws.getD t "")) (.str (ws.getD t "")) Q E
theorem scTf : FnScope ["self"] ["self"] (defScope (wSt 7)) := ⟨rfl, rfl, rfl, by decide +kernel, rfl, by decide +kernel, by decide +kernel⟩
theorem getD_mem {ws : List Str} {t : Nat} (h : t < ws.length) : ws.getD t "" ∈ ws := List.mem_of_getElem? (getD_at h)
theorem blt2 (T : KF P w K mg base) : Blt2 mg := ⟨T.fr _ (by decide), T.fr _ (by decide), T.fr _ (by decide), T.fr _ (by decide), T.fr _ (by decide), T.fr _ (by decide)⟩
theorem ok_tfix (T : KF P w K mg base) {fd : FuncData} (F : FunD K "take_fix" "Words.take_fix" (defArgs (wSt 7)) (defBody (wSt 7)) (defScope (wSt 7)) [] [] (mAd K "take_fix") fd) : FnOk P w K mg base (L2.CX P w) 5 (mAd K "take_fix") fd ["self"] (spTFix K) := by
  obtain ⟨fdF, FF, gF⟩ := T.tops ("is_fix", 4) (by decide)
  obtain ⟨_, fB, FB⟩ := T.meth ("take_by", 9) (by decide)
  have GF : FnOk P w K mg base (L2.CX P w) 1 (ga K "is_fix") fdF ["value"] (spFix K) := (ok_fix FF (blt2 T)).up0
  have bF : L2.Binds K fdF ["value"] [] := FunD.bindsN FF fun _ _ _ _ _ _ us hl => match us, hl with | [_], _ => rfl
  have GB := ok_by T FB GF (by decide) FF.kp bF
  have bB : L2.Binds K fB ["self", "rule"] [] := FunD.bindsN FB fun _ _ _ _ _ _ us hl => match us, hl with | [_, _], _ => rfl
  refine F.ok scTf (fun vs H Q E h => ?_) (fun cdv A outer s H vs Q E hr h => ?_)
  · obtain ⟨p, dx, tp, ws, ln, t, rfl, _⟩ := h
    rfl
  · obtain ⟨p, dx, tp, ws, ln, t, rfl, O, hz, o⟩ := h
    refine ⟨_, pss_one (ps_ret (pe_meth (E := E) (pv 0) T.cl (mt T ("take_by", 9) (by decide)) GB hr bB .nil (passes_call (takes_of rfl rfl rfl rfl) fun _ _ _ _ h => h) (pa_cons (pe_glob (v := .ref (ga K "is_fix")) (by rfl) gF rfl) pa_nil))), ?_⟩
    refine ⟨_, rfl, p, dx, _, rfl, O.ob, rfl, p, dx, tp, ws, ln, t, rfl, O, fun e => ?_, fun h H1 Q1 s1 kq => ?_⟩
    · exact o.no (by rw [decide_eq_false (by omega)]; rfl)
    · refine ⟨_, rfl, .inl ⟨_, rfl, hz _ (getD_mem h), fun H2 s2 => kq _ H2 s2 ?_⟩⟩
      have o2 := (o.same s1).same s2
      rw [decide_eq_true h, Bool.true_and] at o2
      exact o2
end
end K6
set_option Elab.async false
set_option linter.all false
set_option maxRecDepth 100000
set_option maxHeartbeats 1000000
namespace K6
open PySem PySem.Spec PyProof.Rows L2 RV EV He EF EI
section
variable {P : Program} {w : World} {K : PySem.W.Frag} {mg : Str → Option Value} {base : Heap}
def spInit (K : PySem.W.Frag) : Sp := fun vs H Q E => ∃ p dx v ln, vs = [.ref p, v, .int ln] ∧ H p = some (.ins (gW K) dx []) ∧
  ((∃ t, TyX K H v (.type t) ∧ kitB t "str" = some false ∧ BadE K H E (.int ln) (.int 0)) ∨
   ∃ x, v = .str x ∧ x.length ≤ 1000000 ∧ (Txt.split x " ").length ≤ 1000 ∧ ∀ H' tp, Same2 H H' p → WO K H' p dx tp (Txt.split x " ") ln 0 → Q .non H')
abbrev scIn_N : List Str := ["self", "text", "line"]
theorem scIn : FnScope scIn_N ["self", "text", "line"] (defScope (wSt 0)) := ⟨rfl, rfl, rfl, by decide +kernel, rfl, by decide +kernel, by decide +kernel⟩
theorem ok_init (T : KF P w K mg base) {fd : FuncData} (F : FunD K "__init__" "Words.__init__" (defArgs (wSt 0)) (defBody (wSt 0)) (defScope (wSt 0)) [.int 0] [] (mAd K "__init__") fd) : FnOk P w K mg base (L2.CX P w) 3 (mAd K "__init__") fd ["self", "text", "line"] (spInit K) := by
  refine F.ok scIn (fun vs H Q E h => ?_) (fun cdv A outer s H vs Q E hr h => ?_)
  · obtain ⟨p, dx, v, ln, rfl, _⟩ := h
    rfl
  · obtain ⟨p, dx, v, ln, rfl, O, k⟩ := h
    refine ⟨_, pss_cons (ps_if (pt_not (pt_val (pe_callB call_isi (by rfl) (T.fr "isinstance" (by decide)) PyProof.Rows.boot_isinstance (pa_cons (pv 1) (pa_cons (pe_bltn (v := .ty "str") (by rfl) (T.fr "str" (by decide)) boot_T rfl) pa_nil)))))
        (pss_one (ps_bad T hr rfl (takes_of rfl rfl rfl rfl) (by rfl) (pv 2) pe_int)) pss_nil)
      (pss_cons (ps_fld (pv 0) (pe_callTy call_tuple_of (by rfl) (T.fr "tuple" (by decide)) boot_T (pa_cons (pe_split (pv 1) pe_str) pa_nil)) rfl)
      (pss_cons (ps_fld (pv 0) (pv 2) rfl) (pss_one (ps_fld (pv 0) pe_int rfl)))), ?_⟩
    rcases k with ⟨t, ht, e, k⟩ | ⟨x, rfl, hz, hl, k⟩
    · refine ⟨v, rfl, v, .ty "str", _, _, false, rfl, .ty _, ht, kit_ty e, false, rfl, if_posB rfl ⟨_, rfl, mkb k⟩⟩
    · refine ⟨.str x, rfl, .str x, .ty "str", _, _, true, rfl, .ty _, .base (.str x), kit_ty (by decide +kernel), true, rfl, if_negB rfl ?_⟩
      refine ⟨_, rfl, ⟨_, rfl⟩, x, " ", rfl, rfl, by decide +kernel, by rw [sizeLine_eq]; omega, fun l nl => ⟨l, _, rfl, .inl ⟨SqL.of upd_same, fun tp nt => ?_⟩⟩⟩
      have n1 : p ≠ l := ne_of_none O nl
      have O1 : upd H l (.lst ((Txt.split x " ").map V.str)) p = some (.ins (gW K) dx []) := by rw [upd_ne n1]; exact O
      have n2 : p ≠ tp := ne_of_none O1 nt
      have O2 : upd (upd H l (.lst ((Txt.split x " ").map V.str))) tp (.tup ((Txt.split x " ").map V.str)) p = some (.ins (gW K) dx []) := by rw [upd_ne n2]; exact O1
      refine ⟨_, rfl, p, gW K, dx, _, rfl, O2, T.cl, T.noP, by show 0 < 1000; decide, ?_⟩
      refine ⟨_, rfl, _, rfl, p, gW K, dx, _, rfl, upd_same, T.cl, T.noL, by show 1 < 1000; decide, ?_⟩
      refine ⟨_, rfl, p, gW K, dx, _, rfl, upd_same, T.cl, T.noT, by show 2 < 1000; decide, ?_⟩
      refine k _ tp (fun c o hc e => ?_) ⟨by rw [upd_same]; rfl, ?_, Nat.zero_le _, hl⟩
      · rw [upd_ne hc, upd_ne hc, upd_ne hc]
        exact ((same_new nl).trans (same_new nt)) c o e
      · rw [upd_ne (Ne.symm n2), upd_ne (Ne.symm n2), upd_ne (Ne.symm n2)]
        exact upd_same
end
end K6
set_option Elab.async false
set_option linter.all false
set_option maxRecDepth 100000
set_option maxHeartbeats 1000000
/-! Names in order: no Python here. -/
namespace K6
open PySem PySem.Spec PyProof.Rows
/-- x is ahead of y -/
def LtS (x y : Str) : Prop := x.cps.toList < y.cps.toList
instance (x y : Str) : Decidable (LtS x y) := inferInstanceAs (Decidable (x.cps.toList < y.cps.toList))
theorem lt_irr (x : Str) : ¬ LtS x x := List.lt_irrefl _
theorem lt_tr {x y z : Str} (a : LtS x y) (b : LtS y z) : LtS x z := List.lt_trans a b
theorem lt_as {x y : Str} (a : LtS x y) : ¬ LtS y x := List.lt_asymm a
theorem lt_tri {x y : Str} (a : ¬ LtS x y) (b : ¬ LtS y x) : x = y := by
  refine ext_toList ?_
  have a' : y.cps.toList ≤ x.cps.toList := List.not_lt.mp a
  have b' : x.cps.toList ≤ y.cps.toList := List.not_lt.mp b
  exact List.le_antisymm b' a'
theorem lt_ne {x y : Str} (a : LtS x y) : x ≠ y := fun e => lt_irr y (e ▸ a)
abbrev Asc (xs : List Str) : Prop := xs.Pairwise LtS
def insS (x : Str) : List Str → List Str
  | [] => [x]
  | y :: r => if LtS x y then x :: y :: r else if LtS y x then y :: insS x r else y :: r
def lined (xs : List Str) : List Str := xs.foldr insS []
theorem mem_ins {a x : Str} : ∀ {l : List Str}, a ∈ insS x l ↔ a = x ∨ a ∈ l
  | [] => by simp [insS]
  | y :: r => by
    unfold insS
    split
    · simp
    · split
      · rw [List.mem_cons, mem_ins, List.mem_cons]
        constructor
        · rintro (h | h | h)
          · exact .inr (.inl h)
          · exact .inl h
          · exact .inr (.inr h)
        · rintro (h | h | h)
          · exact .inr (.inl h)
          · exact .inl h
          · exact .inr (.inr h)
      · rename_i h1 h2
        have e := lt_tri h1 h2
        subst e
        simp
theorem mem_lined {a : Str} : ∀ {l : List Str}, a ∈ lined l ↔ a ∈ l
  | [] => Iff.rfl
  | x :: r => by
    show a ∈ insS x (lined r) ↔ _
    rw [mem_ins, mem_lined, List.mem_cons]
theorem asc_ins {x : Str} : ∀ {l : List Str}, Asc l → Asc (insS x l)
  | [], _ => by simp [insS]
  | y :: r, h => by
    obtain ⟨h1, h2⟩ := List.pairwise_cons.mp h
    unfold insS
    split
    · rename_i q
      refine List.pairwise_cons.mpr ⟨fun z hz => ?_, h⟩
      rcases List.mem_cons.mp hz with e | e
      · rw [e]; exact q
      · exact lt_tr q (h1 z e)
    · split
      · rename_i q
        refine List.pairwise_cons.mpr ⟨fun z hz => ?_, asc_ins h2⟩
        rcases mem_ins.mp hz with e | e
        · rw [e]; exact q
        · exact h1 z e
      · exact h
theorem asc_lined : ∀ (l : List Str), Asc (lined l)
  | [] => List.Pairwise.nil
  | x :: r => asc_ins (asc_lined r)
/-- ascending lists of the same names are the same -/
theorem asc_uniq : ∀ {xs ys : List Str}, Asc xs → Asc ys → (∀ a, a ∈ xs ↔ a ∈ ys) → xs = ys
  | [], [], _, _, _ => rfl
  | [], y :: ys, _, _, h => absurd ((h y).mpr (List.mem_cons_self ..)) (by simp)
  | x :: xs, [], _, _, h => absurd ((h x).mp (List.mem_cons_self ..)) (by simp)
  | x :: xs, y :: ys, hx, hy, h => by
    obtain ⟨x1, x2⟩ := List.pairwise_cons.mp hx
    obtain ⟨y1, y2⟩ := List.pairwise_cons.mp hy
    have e : x = y := by
      rcases List.mem_cons.mp ((h x).mp (List.mem_cons_self ..)) with e | e
      · exact e
      · rcases List.mem_cons.mp ((h y).mpr (List.mem_cons_self ..)) with e2 | e2
        · exact e2.symm
        · exact absurd (y1 x e) (lt_as (x1 y e2))
    subst e
    refine congrArg (x :: ·) (asc_uniq x2 y2 fun a => ?_)
    constructor
    · intro ha
      rcases List.mem_cons.mp ((h a).mp (List.mem_cons_of_mem _ ha)) with e | e
      · exact absurd (e ▸ x1 a ha) (lt_irr _)
      · exact e
    · intro ha
      rcases List.mem_cons.mp ((h a).mpr (List.mem_cons_of_mem _ ha)) with e | e
      · exact absurd (e ▸ y1 a ha) (lt_irr _)
      · exact e
theorem lined_asc {l : List Str} (h : Asc l) : lined l = l := asc_uniq (asc_lined l) h fun _ => mem_lined
theorem lined_eq {l m : List Str} (h : ∀ a, a ∈ l ↔ a ∈ m) : lined l = lined m := asc_uniq (asc_lined l) (asc_lined m) fun a => by rw [mem_lined, mem_lined]; exact h a
theorem asc_nodup {l : List Str} (h : Asc l) : l.Nodup := List.Pairwise.imp (fun a => lt_ne a) h
theorem ins_len {x : Str} : ∀ (l : List Str), (insS x l).length ≤ l.length + 1
  | [] => by simp [insS]
  | y :: r => by
    unfold insS
    split
    · simp
    · split
      · have := ins_len (x := x) r
        simp only [List.length_cons]
        omega
      · simp
theorem lined_len : ∀ (l : List Str), (lined l).length ≤ l.length
  | [] => Nat.le_refl _
  | x :: r => by
    have h1 := ins_len (x := x) (lined r)
    have h2 := lined_len r
    show (insS x (lined r)).length ≤ r.length + 1
    omega
/-- a sorted list without twins is ascending -/
theorem asc_of_sorted {ys : List Str} (h : sortedS ys = true) (hn : ys.Nodup) : Asc ys := by
  have key : ∀ (r : List Str) (p : Str), risingS p r = true → (p :: r).Pairwise fun a b => ¬ LtS b a := by
    intro r
    induction r with
    | nil => intro p _; simp
    | cons y r ih =>
      intro p hp
      unfold risingS at hp
      obtain ⟨h1, h2⟩ := Bool.and_eq_true_iff.mp hp
      have ih2 := ih y h2
      have q : ¬ LtS y p := by
        rw [ltCps_eq] at h1
        exact of_decide_eq_false (Bool.not_eq_true' _ ▸ h1)
      refine List.pairwise_cons.mpr ⟨fun z hz => ?_, ih2⟩
      rcases List.mem_cons.mp hz with e | e
      · rw [e]; exact q
      · intro zp
        have yz := (List.pairwise_cons.mp ih2).1 z e
        by_cases c : LtS y z
        · exact q (lt_tr c zp)
        · rw [lt_tri c yz] at q
          exact q zp
  have all : ys.Pairwise fun a b => ¬ LtS b a := by
    cases ys with
    | nil => exact List.Pairwise.nil
    | cons y r => exact key r y h
  refine List.Pairwise.imp (fun {a b} ⟨h1, h2⟩ => ?_) (List.Pairwise.and hn all)
  by_cases c : LtS a b
  · exact c
  · exact absurd (lt_tri c h2) h1
/-- sorted of unlike names: in order -/
theorem sorted_lined {xs ys : List Str} (hp : ys.Perm xs) (hs : sortedS ys = true) (hn : xs.Nodup) : ys = lined xs :=
  asc_uniq (asc_of_sorted hs (hp.symm.nodup hn)) (asc_lined xs) fun a => by rw [mem_lined]; exact hp.mem_iff
end K6
set_option Elab.async false
set_option linter.all false
set_option maxRecDepth 100000
set_option maxHeartbeats 1000000
/-! Operators of an own class: x < y, x != y, x | y, y in x, x[i], str(x). -/
namespace Oo
open PySem PySem.Spec PyProof.Rows L2
section
variable {X : Cx} {CX : CXT} {k : Nat} {C f : Addr} {sp : Sp} {E : XK} {pins : List (Addr × Obj)} {σ : L2.St} {H : Hp} {s : Shared}
theorem looks_ty {x : V} {u t : Value} (I : Inv X pins σ H s) (rx : RelV x u) (ty : TyX X.K H x t) : PySem.W.Looks (model X.prog X.w) s.heap (typeOf u) t := by
  obtain ⟨P, Z, p, _⟩ := kit_of I rx ty
  exact Z.ty _ _ I.kIn p
/-- no value of ours is NotImplemented -/
theorem back_of {v : V} {u : Value} {s' : Shared} {Q : Value → Shared → Prop} (r : RelV v u) (h : Q u s') : PySem.W.CmpBack Q u s' := by
  cases v with
  | non => obtain rfl : u = .none := r; exact h
  | bl b => obtain rfl : u = .bool b := r; exact h
  | int i => obtain ⟨t, rfl⟩ := r; exact h
  | str x => obtain ⟨t, rfl⟩ := r; exact h
  | byt x => obtain ⟨t, rfl⟩ := r; exact h
  | flt x => obtain ⟨t, rfl⟩ := r; exact h
  | ref a => obtain rfl : u = .ref a := r; exact h
  | ty n => obtain rfl : u = .type n := r; exact h
/-- an own method of two places: x of the class at C, y of a kind that ok lets -/
def rOwn2 (K : PySem.W.Frag) (C : Addr) (ok : Value → Prop) (sp : Sp) (E : XK) : R2 := fun x y H Q => ∃ a dx fs t, x = .ref a ∧ H a = some (.ins C dx fs) ∧ TyX K H y t ∧ ok t ∧ sp [.ref a, y] H Q E
/-- x < y and the like -/
theorem op_cmpO {op : CmpOp} (hop : ∀ a b, compareOp op a b = richCompare op a b) (hm : Meth X.K C (cmpInfo op).2.1 f) (F : FnR X.prog X.w X.K X.mg X.base CX k f sp) (hr : Room k X.A) (hx : Passes CX X E) :
    OpR X (compareOp op) (rOwn2 X.K C (fun t => PySem.W.notFirst X.K C t = true) sp E) := by
  intro pins s σ H x y v u Q I rx ry h
  obtain ⟨a, dx, fs, t, rfl, ea, ty, hn, q⟩ := h
  obtain rfl : v = Value.ref a := rx
  rw [hop]
  obtain ⟨mA, O, _⟩ := ins_get I.hok ea
  obtain ⟨od, J, _⟩ := O.look
  obtain ⟨m, hF⟩ := I.fr
  refine PySem.W.cmp_K hr.units0 hF I.ok.mod.kin J (looks_ty I ry ty) hn hm.at_ hm.fn (thn (wpAny_call (run_fnR (us := [.ref a, u]) (vs := [.ref a, y]) F hr hx I (.cons rfl (.cons ry .nil)) q)) fun z s' hz => ?_)
  obtain ⟨w, H', I', rw', q'⟩ := hz
  exact back_of rw' ⟨w, H', I', rw', q'⟩
/-- x | y and the like, y of the same class -/
theorem op_binO {op : Operator} (hm : Meth X.K C (PySem.dunder op.info.2) f) (hs : PySem.W.selfFirst X.K C = true) (F : FnR X.prog X.w X.K X.mg X.base CX k f sp) (hr : Room k X.A) (hx : Passes CX X E) :
    OpR X (binaryOp op) (rOwn2 X.K C (fun t => t = .ref C) sp E) := by
  intro pins s σ H x y v u Q I rx ry h
  obtain ⟨a, dx, fs, t, rfl, ea, ty, rfl, q⟩ := h
  obtain rfl : v = Value.ref a := rx
  obtain ⟨mA, O, _⟩ := ins_get I.hok ea
  obtain ⟨od, J, _⟩ := O.look
  obtain ⟨m, hF⟩ := I.fr
  refine PySem.W.binop_K hF I.ok.mod.kin J (looks_ty I ry ty) hs hm.at_ hm.fn (thn (wpAny_call (run_fnR (us := [.ref a, u]) (vs := [.ref a, y]) F hr hx I (.cons rfl (.cons ry .nil)) q)) fun z s' hz => ?_)
  obtain ⟨w, H', I', rw', q'⟩ := hz
  exact back_of rw' ⟨w, H', I', rw', q'⟩
/-- y in x, by __contains__ that gives a Bool -/
def rInO (C : Addr) (g : Bool → Bool) (sp : Sp) (E : XK) : R2 := fun y x H Q => ∃ a dx fs, x = .ref a ∧ H a = some (.ins C dx fs) ∧ sp [.ref a, y] H (fun v H' => ∃ b, v = .bl b ∧ Q (.bl (g b)) H') E
theorem contO (hm : Meth X.K C "__contains__" f) (F : FnR X.prog X.w X.K X.mg X.base CX k f sp) (hr : Room k X.A) (hx : Passes CX X E) {a dx : Addr} {fs : List (Str × V)} {y : V} {u : Value} {g : Bool → Bool} {Q : VK} (I : Inv X pins σ H s) (ry : RelV y u) (ea : H a = some (.ins C dx fs))
    (q : sp [.ref a, y] H (fun v H' => ∃ b, v = .bl b ∧ Q (.bl (g b)) H') E) : wpAny (model X.prog X.w) X.A (call (.ref f) [.ref a, u]) (fun r s' => wpAny (model X.prog X.w) X.A (truthy r) (fun b s'' => EP X pins σ Q (.bool (g b)) s'') X.xe s') X.xe s := by
  refine thn (wpAny_call (run_fnR (us := [.ref a, u]) (vs := [.ref a, y]) F hr hx I (.cons rfl (.cons ry .nil)) q)) fun z s' hz => ?_
  obtain ⟨w, H', I', rw', b, rfl, q'⟩ := hz
  obtain rfl : z = Value.bool b := rw'
  exact wpAny_truthy_bool ⟨.bl (g b), H', I', rfl, q'⟩
theorem op_inO (hm : Meth X.K C "__contains__" f) (F : FnR X.prog X.w X.K X.mg X.base CX k f sp) (hr : Room k X.A) (hx : Passes CX X E) : OpR X (compareOp .In) (rInO C (fun b => b) sp E) := by
  intro pins s σ H y x u v Q I ry rx h
  obtain ⟨a, dx, fs, rfl, ea, q⟩ := h
  obtain rfl : v = Value.ref a := rx
  obtain ⟨mA, O, _⟩ := ins_get I.hok ea
  obtain ⟨od, J, _⟩ := O.look
  obtain ⟨m, hF⟩ := I.fr
  exact PySem.W.in_K hF I.ok.mod.kin J hm.at_ hm.fn (contO (g := fun b => b) hm F hr hx I ry ea q)
/-- str(x) by an own __str__ -/
def rStrO (C : Addr) (sp : Sp) (E : XK) : List V → Hp → VK → Prop := fun xs H Q => ∃ a dx fs, xs = [.ref a] ∧ H a = some (.ins C dx fs) ∧ sp [.ref a] H (fun v H' => ∃ z, v = .str z ∧ Q (.str z) H') E
theorem call_strO (hm : Meth X.K C "__str__" f) {fd : FuncData} {ps : List Str} (F : FnOk X.prog X.w X.K X.mg X.base CX k f fd ps sp) (hr : Room (k + 2) X.A) (hb : Binds X.K fd ps []) (hx : Passes CX X E) : CallR X (.type "str") (rStrO C sp E) := by
  intro pins s σ H xs us Q I r h
  obtain ⟨a, dx, fs, rfl, ea, q⟩ := h
  obtain ⟨u, rfl, ru⟩ := vals1 r
  obtain rfl : u = Value.ref a := ru
  obtain ⟨mA, O, _⟩ := ins_get I.hok ea
  obtain ⟨od, J, _⟩ := O.look
  have hl := F.len _ _ _ _ q
  refine PySem.W.kso_call hr.in1.in1.units0 I.kIn J hm.at_ hm.fn (wpAny_call (codeAny_mono (F.run X.A.in1.in1 X.stack s H ⟨[.ref a], []⟩ [.ref a] [.ref a] _ E hr.in1.in1 I.env0.in1.in1 (by
    have := hb s [.ref a] I.kIn (by simpa using hl)
    simpa using this) (.cons rfl .nil) q) fun rs s' hq => ?_))
  cases rs with
  | error e => exact hx pins σ H s e s' I hq
  | ok fl =>
    cases fl with
    | ret z =>
      obtain ⟨v, H', I', rv, y, rfl, q'⟩ := I.after hq
      obtain ⟨t, rfl⟩ := rv
      exact ⟨.str y, H', I', ⟨t, rfl⟩, q'⟩
    | next => exact False.elim hq
    | brk => exact False.elim hq
    | cont => exact False.elim hq
end
end Oo
set_option Elab.async false
set_option linter.all false
set_option maxRecDepth 100000
set_option maxHeartbeats 1000000
namespace Oo
open PySem PySem.Spec PyProof.Rows L2 PySem.W
section
variable {prog : Program} {w : World} {A : Around} {E : Value → Shared → Prop} {s : Shared} {K : Frag} {x C L f : Addr} {h₀ : Heap} {m : Str → Option Value} {ox : Obj} {od : Option Obj}
/-- what the operator's two names are at a built-in kind -/
structure KindOp (nm : String) (T : String) : Prop where
  fills : ∃ r, fillsNumberSlot (.type T) nm = pure r
  back : ∃ o, typeLookup (.type T) (dunderR nm) = pure o
theorem binary1_T {nm : String} {T : String} {b : Value} {Q : Value → Shared → Prop} (X : K.In s.heap) (I : InstAt s.heap x ox C od) (hb : Looks (model prog w) s.heap (typeOf b) (.type T)) (hc : selfFirst K C = true)
    (hs : findIn K (.ref C) (PySem.dunder nm) = some (some (.ref f))) (hn : findIn K (.ref C) (dunderR nm) = some none) (hsub : subIn K (.type T) (.ref C) = some false) (hf : isFn K (.ref f) = true) (ko : KindOp nm T)
    (h : wpAny (model prog w) A (call (.ref f) [.ref x, b]) (W.CmpBack Q) E s) : wpAny (model prog w) A (binaryOp1 nm (.ref x) b) (fun z s' => ∃ v, z = some v ∧ Q v s') E s := by
  obtain ⟨cd, hcd, hm⟩ := any_some hc
  have hm2 : ∃ l, cd.mro = .ref C :: l := by
    rcases e : cd.mro with _ | ⟨c0, l⟩
    · rw [e] at hm; exact nomatch hm
    · rw [e, List.head?_cons] at hm
      exact ⟨l, by rw [Option.some.inj (beq_iff_eq.mp hm)]⟩
  obtain ⟨l, hm2⟩ := hm2
  obtain ⟨r, hr⟩ := ko.fills
  obtain ⟨o, ho⟩ := ko.back
  have one : wpAny (model prog w) A (tryMethod (.ref x) (PySem.dunder nm) b) (fun z s' => ∃ v, z = some v ∧ Q v s') E s := by
    unfold tryMethod
    refine wpAny_bind (special_fn X I hs (beq_iff_eq.mp hf) (wpAny_mono h (fun v s' hv => ?_) fun _ _ e => e))
    cases v <;> first | exact hv.elim | exact wpAny_pure ⟨_, rfl, hv⟩
  unfold binaryOp1
  refine wpAny_bind (I.type.here (wpAny_bind (hb.here (wpAny_bind ((fills_K X hcd hm2 hs).here ?_)))))
  have e0 : ((Value.ref C) == (Value.type T)) = false := rfl
  simp only [e0, if_false, Bool.false_eq_true]
  rw [hr]
  refine wpAny_bind (wpAny_pure ?_)
  cases r with
  | false =>
    simp only [Bool.and_false, Bool.false_eq_true, if_false, Bool.false_and]
    refine wpAny_bind (wpAny_pure ?_)
    simp only [Bool.false_eq_true, if_false, if_true]
    refine wpAny_bind (wpAny_mono one (fun z s' hz => ?_) fun _ _ e => e)
    obtain ⟨v, rfl, q⟩ := hz
    exact wpAny_pure ⟨v, rfl, q⟩
  | true =>
    have num : Looks (model prog w) s.heap (numberSlotInPython (.ref C) nm) true := by
      intro A Q E s' k q
      have X' : K.In s'.heap := X.keeps k
      unfold numberSlotInPython
      refine wpAny_bind ((looks_findIn X hs) A _ E s' k ?_)
      refine wpAny_bind (m := calledByName (.ref C) (PySem.dunder nm) (some (.ref f))) (wpAny_pure ?_)
      refine wpAny_bind ((looks_findIn X hn) A _ E s' k ?_)
      refine wpAny_bind (m := calledByName (.ref C) (dunderR nm) none) (wpAny_pure ?_)
      exact wpAny_pure q
    simp only [Bool.and_true, if_true]
    refine wpAny_bind ((looks_subIn X hsub).here ?_)
    simp only [Bool.false_eq_true, if_false, Bool.not_false, if_true]
    refine wpAny_bind (num.here ?_)
    simp only [if_true]
    refine wpAny_bind (m := numberSlotInPython (.type T) nm) (wpAny_pure ?_)
    simp only [Bool.not_false, if_true]
    rw [ho]
    refine wpAny_bind (wpAny_pure ?_)
    refine wpAny_bind (wpAny_mono one (fun z s' hz => ?_) fun _ _ e => e)
    obtain ⟨v, rfl, q⟩ := hz
    exact wpAny_pure ⟨v, rfl, q⟩
theorem binop_T {op : Operator} {T : String} {b : Value} {Q : Value → Shared → Prop} (X : K.In s.heap) (I : InstAt s.heap x ox C od) (hb : Looks (model prog w) s.heap (typeOf b) (.type T)) (hc : selfFirst K C = true)
    (hs : findIn K (.ref C) (PySem.dunder op.info.2) = some (some (.ref f))) (hn : findIn K (.ref C) (dunderR op.info.2) = some none) (hsub : subIn K (.type T) (.ref C) = some false) (hf : isFn K (.ref f) = true) (ko : KindOp op.info.2 T)
    (h : wpAny (model prog w) A (call (.ref f) [.ref x, b]) (W.CmpBack Q) E s) : wpAny (model prog w) A (binaryOp op (.ref x) b) Q E s := by
  unfold binaryOp
  refine wpAny_holding (wpAny_bind (m := binaryOp1 op.info.2 (.ref x) b) (wpAny_mono (binary1_T X I hb hc hs hn hsub hf ko h) (fun z s' hz => ?_) fun _ _ e => e))
  obtain ⟨v, rfl, q⟩ := hz
  exact wpAny_pure q
theorem binary1_S {nm : String} {b : Value} {Q : Value → Shared → Prop} (X : K.In s.heap) (I : InstAt s.heap x ox C od) (hb : Looks (model prog w) s.heap (typeOf b) (.ref C)) (hc : selfFirst K C = true)
    (hs : findIn K (.ref C) (PySem.dunder nm) = some (some (.ref f))) (hf : isFn K (.ref f) = true)
    (h : wpAny (model prog w) A (call (.ref f) [.ref x, b]) (W.CmpBack Q) E s) : wpAny (model prog w) A (binaryOp1 nm (.ref x) b) (fun z s' => ∃ v, z = some v ∧ Q v s') E s := by
  obtain ⟨cd, hcd, hm⟩ := any_some hc
  have hm2 : ∃ l, cd.mro = .ref C :: l := by
    rcases e : cd.mro with _ | ⟨c0, l⟩
    · rw [e] at hm; exact nomatch hm
    · rw [e, List.head?_cons] at hm
      exact ⟨l, by rw [Option.some.inj (beq_iff_eq.mp hm)]⟩
  obtain ⟨l, hm2⟩ := hm2
  have one : wpAny (model prog w) A (tryMethod (.ref x) (PySem.dunder nm) b) (fun z s' => ∃ v, z = some v ∧ Q v s') E s := by
    unfold tryMethod
    refine wpAny_bind (special_fn X I hs (beq_iff_eq.mp hf) (wpAny_mono h (fun v s' hv => ?_) fun _ _ e => e))
    cases v <;> first | exact hv.elim | exact wpAny_pure ⟨_, rfl, hv⟩
  unfold binaryOp1
  refine wpAny_bind (I.type.here (wpAny_bind (hb.here (wpAny_bind ((fills_K X hcd hm2 hs).here ?_)))))
  simp only [beq_self_eq_true, if_true]
  refine wpAny_bind (wpAny_pure ?_)
  simp only [Bool.and_false, Bool.false_eq_true, if_false, Bool.false_and]
  refine wpAny_bind (wpAny_pure ?_)
  simp only [Bool.false_eq_true, if_false, if_true]
  refine wpAny_bind (wpAny_mono one (fun z s' hz => ?_) fun _ _ e => e)
  obtain ⟨v, rfl, q⟩ := hz
  exact wpAny_pure ⟨v, rfl, q⟩
/-- x |= y where the class has no own in-place form -/
theorem inplace_S {op : Operator} {b : Value} {Q : Value → Shared → Prop} (X : K.In s.heap) (I : InstAt s.heap x ox C od) (hb : Looks (model prog w) s.heap (typeOf b) (.ref C)) (hc : selfFirst K C = true)
    (hs : findIn K (.ref C) (PySem.dunder op.info.2) = some (some (.ref f))) (hi : Looks (model prog w) s.heap (fillsInplaceSlot (.ref C) op.info.2 (op == .Add)) false) (hf : isFn K (.ref f) = true)
    (h : wpAny (model prog w) A (call (.ref f) [.ref x, b]) (W.CmpBack Q) E s) : wpAny (model prog w) A (inplaceOp op (.ref x) b) Q E s := by
  unfold inplaceOp
  refine wpAny_holding (wpAny_bind (I.type.here (wpAny_bind (hi.here ?_))))
  simp only [Bool.false_eq_true, if_false]
  refine wpAny_bind (m := binaryOp1 op.info.2 (.ref x) b) (wpAny_mono (binary1_S X I hb hc hs hf h) (fun z s' hz => ?_) fun _ _ e => e)
  obtain ⟨v, rfl, q⟩ := hz
  exact wpAny_pure q
end
end Oo
set_option Elab.async false
set_option linter.all false
set_option maxRecDepth 100000
set_option maxHeartbeats 1000000
namespace Oo
open PySem PySem.Spec PyProof.Rows L2 PySem.W
def kindsT : List String := ["NoneType", "bool", "int", "str", "tuple", "list", "dict"]
def opsN : List String := ["or", "and", "sub", "xor"]
theorem look_some {T : String} {n : Str} (h : (builtinLookup T n).isSome = true) : ∃ o, typeLookup (.type T) n = pure o := by
  rw [typeLookup_type]
  cases e : builtinLookup T n with
  | none => rw [e] at h; exact nomatch h
  | some r => exact ⟨r, rfl⟩
theorem looks_all : (kindsT.all fun t => opsN.all fun n => (builtinLookup t (PySem.dunder n)).isSome && (builtinLookup t (dunderR n)).isSome) = true := by decide +kernel
theorem kindOp {T nm : String} (hT : T ∈ kindsT) (hn : nm ∈ opsN) : KindOp nm T := by
  have h := List.all_eq_true.mp (List.all_eq_true.mp looks_all T hT) nm hn
  obtain ⟨h1, h2⟩ := Bool.and_eq_true_iff.mp h
  obtain ⟨f, hf⟩ := look_some h1
  obtain ⟨r, hr⟩ := look_some h2
  refine ⟨⟨(f.isSome && !isSeqSlot f) || (r.isSome && !isSeqSlot r), ?_⟩, r, hr⟩
  simp only [fillsNumberSlot, hf, hr, pure_bind]
section
variable {M : Model} {h : Heap} {K : Frag} {C : Addr}
theorem noInplace {nm : String} {b : Bool} (X : K.In h) (hmro : ((clsIn K C).any fun cd => decide (cd.mro = [.ref C, .type "object"])) = true) (hn : findIn K (.ref C) (dunderI nm) = some none) (ho : typeLookup (.type "object") (dunderI nm) = pure none) :
    Looks M h (fillsInplaceSlot (.ref C) nm b) false := by
  intro A Q E s k q
  obtain ⟨cd, hc, hm⟩ := any_some hmro
  have hm := of_decide_eq_true hm
  unfold fillsInplaceSlot
  refine wpAny_bind ((looks_clsIn X hc).andThen (f := fun cd => pure cd.mro) .now A _ E s k ?_)
  rw [hm, List.anyM_cons]
  refine wpAny_bind (wpAny_bind ((looks_findIn X hn) A _ E s k ?_))
  refine wpAny_pure ?_
  simp only [Bool.false_eq_true, if_false]
  rw [List.anyM_cons]
  refine wpAny_bind ?_
  rw [ho]
  refine wpAny_bind (wpAny_pure (wpAny_pure ?_))
  simp only [Bool.false_eq_true, if_false, List.anyM_nil]
  exact wpAny_pure q
end
section
variable {X : Cx} {CX : CXT} {k : Nat} {C f : Addr} {sp : Sp} {E : XK}
/-- what the class must say for x op y, y of a built-in kind or of the class itself -/
structure OpC (K : Frag) (C f : Addr) (nm : String) : Prop where
  mt : Meth K C (PySem.dunder nm) f
  sf : selfFirst K C = true
  mro : ((clsIn K C).any fun cd => decide (cd.mro = [.ref C, .type "object"])) = true
  nr : findIn K (.ref C) (dunderR nm) = some none
  ni : findIn K (.ref C) (dunderI nm) = some none
  sub : ∀ T ∈ kindsT, subIn K (.type T) (.ref C) = some false
def okBin (C : Addr) (t : Value) : Prop := t = .ref C ∨ ∃ T ∈ kindsT, t = .type T
/-- x | y -/
theorem op_bin {op : Operator} (c : OpC X.K C f op.info.2) (hn : op.info.2 ∈ opsN) (F : FnR X.prog X.w X.K X.mg X.base CX k f sp) (hr : Room k X.A) (hx : Passes CX X E) : OpR X (binaryOp op) (rOwn2 X.K C (okBin C) sp E) := by
  intro pins s σ H x y v u Q I rx ry h
  obtain ⟨a, dx, fs, t, rfl, ea, ty, ok, q⟩ := h
  rcases ok with rfl | ⟨T, hT, rfl⟩
  · exact op_binO c.mt c.sf F hr hx pins s σ H _ y v u Q I rx ry ⟨a, dx, fs, _, rfl, ea, ty, rfl, q⟩
  · obtain rfl : v = Value.ref a := rx
    obtain ⟨mA, O, _⟩ := ins_get I.hok ea
    obtain ⟨od, J, _⟩ := O.look
    refine binop_T I.kIn J (looks_ty I ry ty) c.sf c.mt.at_ c.nr (c.sub T hT) c.mt.fn (kindOp hT hn) (thn (wpAny_call (run_fnR (us := [.ref a, u]) (vs := [.ref a, y]) F hr hx I (.cons rfl (.cons ry .nil)) q)) fun z s' hz => ?_)
    obtain ⟨w, H', I', rw', q'⟩ := hz
    exact back_of rw' ⟨w, H', I', rw', q'⟩
/-- x |= y, y of the class -/
theorem op_inp {op : Operator} (c : OpC X.K C f op.info.2) (ho : typeLookup (.type "object") (dunderI op.info.2) = pure none) (F : FnR X.prog X.w X.K X.mg X.base CX k f sp) (hr : Room k X.A) (hx : Passes CX X E) : OpR X (inplaceOp op) (rOwn2 X.K C (fun t => t = .ref C) sp E) := by
  intro pins s σ H x y v u Q I rx ry h
  obtain ⟨a, dx, fs, t, rfl, ea, ty, rfl, q⟩ := h
  obtain rfl : v = Value.ref a := rx
  obtain ⟨mA, O, _⟩ := ins_get I.hok ea
  obtain ⟨od, J, _⟩ := O.look
  refine inplace_S I.kIn J (looks_ty I ry ty) c.sf c.mt.at_ (noInplace I.kIn c.mro c.ni ho) c.mt.fn (thn (wpAny_call (run_fnR (us := [.ref a, u]) (vs := [.ref a, y]) F hr hx I (.cons rfl (.cons ry .nil)) q)) fun z s' hz => ?_)
  obtain ⟨w, H', I', rw', q'⟩ := hz
  exact back_of rw' ⟨w, H', I', rw', q'⟩
theorem no_inp {nm : String} (h : nm ∈ opsN) : typeLookup (.type "object") (dunderI nm) = pure none := by
  have z : (opsN.all fun n => builtinLookup "object" (dunderI n) == some none) = true := by decide +kernel
  have := beq_iff_eq.mp (List.all_eq_true.mp z nm h)
  rw [typeLookup_type, this]
end
end Oo
set_option Elab.async false
set_option linter.all false
set_option maxRecDepth 100000
set_option maxHeartbeats 1000000
namespace Oo
open PySem PySem.Spec PyProof.Rows L2 PySem.W
section
variable {prog : Program} {w : World} {A : Around} {E : Value → Shared → Prop} {s : Shared} {K : Frag} {x C L f : Addr} {h₀ : Heap} {m : Str → Option Value} {ox : Obj} {od : Option Obj} {b tb : Value}
open Builtin in
theorem obj_ne {Q : Value → Shared → Prop} (hu : A.in1.units < cLine) (X : K.In s.heap) (I : InstAt s.heap x ox C od) (hm : mroIn K C (.type "object") = some true) (he : findIn K (.ref C) "__eq__" = some (some (.ref f))) (hf : isFn K (.ref f) = true)
    (h : wpAny (model prog w) A.in1 (call (.ref f) [.ref x, b]) (fun v s' => ∃ r, v = .bool r ∧ Q (.bool (!r)) s') E s) : wpAny (model prog w) A (call (.builtin "object.__ne__") [.ref x, b]) Q E s := by
  refine wpAny_call (codeAny_call_builtin PySem.F.cmp_object.ne.plain PySem.F.cmpEntry_ne (check_slot (i := "object.__ne__") (owner := "object") (n := "__ne__") PySem.F.cmpKind_ne PySem.F.cmpSplit_ne (I.type.andThen (looks_mroIn X hm)) (PySem.F.cmpArgs_ne _ _) ?_))
  unfold Builtin.«object.__ne__»
  refine wpAny_bind (m := slotArgs "__ne__" 1 _) (wpAny_pure ?_)
  refine wpAny_bind (m := cRoomFor _ _) (wpAny_cRoomFor hu ?_)
  refine wpAny_bind (m := callSpecialIfBound? (.ref x) (Str.ofString "__eq__") _) (ifBound_K X I he hf (wpAny_mono h (fun r s' hq => ?_) fun _ _ y => y))
  obtain ⟨b1, rfl, q⟩ := hq
  exact wpAny_bind (wpAny_truthy_bool (wpAny_pure q))
theorem ne_K {Q : Value → Shared → Prop} (hu : A.units < cLine) (hu1 : A.in1.units < cLine) (X : K.In s.heap) (I : InstAt s.heap x ox C od) (hb : Looks (model prog w) s.heap (typeOf b) tb) (hn : notFirst K C tb = true)
    (hs : findIn K (.ref C) "__ne__" = some (some (.builtin "object.__ne__"))) (hm : mroIn K C (.type "object") = some true) (he : findIn K (.ref C) "__eq__" = some (some (.ref f))) (hf : isFn K (.ref f) = true)
    (h : wpAny (model prog w) A.in1 (call (.ref f) [.ref x, b]) (fun v s' => ∃ r, v = .bool r ∧ Q (.bool (!r)) s') E s) : wpAny (model prog w) A (richCompare .NotEq (.ref x) b) Q E s := by
  have one : wpAny (model prog w) A (tryCompare (.ref x) "__ne__" b) (fun z s' => ∃ r, z = some (.bool (!r)) ∧ Q (.bool (!r)) s') E s := by
    unfold tryCompare
    simp only [callSpecialIfBound?, bindSpecialIfBound?]
    have body : wpAny (model prog w) A (call (.builtin "object.__ne__") [.ref x, b]) (fun v s' => ∃ r, v = .bool (!r) ∧ Q (.bool (!r)) s') E s :=
      obj_ne hu1 X I hm he hf (wpAny_mono h (fun v s' ⟨r, e, q⟩ => ⟨r, e, r, rfl, q⟩) fun _ _ e => e)
    refine wpAny_bind (wpAny_holding (wpAny_bind (wpAny_bind (wpAny_bind (I.type.here ((looks_findIn X hs).here ?_))))))
    refine wpAny_bind (wpAny_askSetting (wpAny_ite ?_))
    have fin : wpAny (model prog w) A (call (.builtin "object.__ne__") ([.ref x] ++ [b]) >>= fun v => pure (some v)) (fun a s' => wpAny (model prog w) A (match a with | some .notImplemented => pure none | none => pure none | some v => pure (some v)) (fun z s'' => ∃ r, z = some (.bool (!r)) ∧ Q (.bool (!r)) s'') E s') E s :=
      wpAny_bind (wpAny_mono body (fun v s' ⟨r, e, q⟩ => by subst e; exact wpAny_pure (wpAny_pure ⟨r, rfl, q⟩)) fun _ _ e => e)
    split
    · refine wpAny_bind ((Looks.of_pure (PySem.F.cmp_object.ne.bind _)).here (wpAny_pure ?_))
      exact fin
    · refine wpAny_tryCatch (wpAny_bind ((Looks.of_pure (PySem.F.cmp_object.ne.bind _)).here (wpAny_pure ?_)))
      exact fin
  unfold richCompare
  simp only [oneThing_ref]
  refine wpAny_holding (wpAny_bind (wpAny_cRoomFor hu ?_))
  refine wpAny_bind (I.type.here (wpAny_bind (hb.here ?_)))
  split
  · rename_i q
    have e : subIn K tb (.ref C) = some false := by
      rcases Bool.or_eq_true_iff.mp hn with z | z
      · rw [beq_iff_eq.mp z] at q; simp at q
      · exact beq_iff_eq.mp z
    refine wpAny_bind ((looks_subIn X e).here ?_)
    simp only [Bool.false_eq_true, if_false]
    refine wpAny_bind (wpAny_mono one (fun r s' z => ?_) fun _ _ e => e)
    obtain ⟨v, rfl, hq⟩ := z
    exact wpAny_pure hq
  · refine wpAny_bind (wpAny_pure ?_)
    simp only [Bool.false_eq_true, if_false]
    refine wpAny_bind (wpAny_mono one (fun r s' z => ?_) fun _ _ e => e)
    obtain ⟨v, rfl, hq⟩ := z
    exact wpAny_pure hq
end
section
variable {X : Cx} {CX : CXT} {k : Nat} {C f : Addr} {sp : Sp} {E : XK}
/-- x != y by the own == -/
def rNeO (K : Frag) (C : Addr) (sp : Sp) (E : XK) : R2 := fun x y H Q => ∃ a dx fs t, x = .ref a ∧ H a = some (.ins C dx fs) ∧ TyX K H y t ∧ notFirst K C t = true ∧ sp [.ref a, y] H (fun v H' => ∃ r, v = .bl r ∧ Q (.bl (!r)) H') E
theorem op_neO {fd : FuncData} {ps : List Str} (hm : Meth X.K C "__eq__" f) (hn : findIn X.K (.ref C) "__ne__" = some (some (.builtin "object.__ne__"))) (ho : mroIn X.K C (.type "object") = some true)
    (F : FnOk X.prog X.w X.K X.mg X.base CX k f fd ps sp) (hb : Binds X.K fd ps []) (hr : Room (k + 1) X.A) (hx : Passes CX X E) : OpR X (compareOp .NotEq) (rNeO X.K C sp E) := by
  intro pins s σ H x y v u Q I rx ry h
  obtain ⟨a, dx, fs, t, rfl, ea, ty, nf, q⟩ := h
  obtain rfl : v = Value.ref a := rx
  obtain ⟨mA, O, _⟩ := ins_get I.hok ea
  obtain ⟨od, J, _⟩ := O.look
  have hl := F.len _ _ _ _ q
  show wpAny _ _ (richCompare .NotEq (.ref a) u) _ _ s
  refine ne_K hr.units0 hr.in1.units0 I.kIn J (looks_ty I ry ty) nf hn ho hm.at_ hm.fn (wpAny_call (codeAny_mono (F.run X.A.in1 X.stack s H ⟨[.ref a, u], []⟩ [.ref a, u] [.ref a, y] _ E hr.in1 I.env0.in1 (by
    have := hb s [.ref a, u] I.kIn (by simpa using hl)
    simpa using this) (.cons rfl (.cons ry .nil)) q) fun rs s' hq => ?_))
  cases rs with
  | error e => exact hx pins σ H s e s' I hq
  | ok fl =>
    cases fl with
    | ret z =>
      obtain ⟨v, H', I', rv, r, rfl, q'⟩ := I.after hq
      obtain rfl : z = Value.bool r := rv
      exact ⟨r, rfl, .bl (!r), H', I', rfl, q'⟩
    | next => exact False.elim hq
    | brk => exact False.elim hq
    | cont => exact False.elim hq
end
end Oo
set_option Elab.async false
set_option linter.all false
set_option maxRecDepth 100000
set_option maxHeartbeats 1000000
/-! x[i], x[lo:hi], x[lo:hi:st] by an own __getitem__; the slice as an object of its own. -/
namespace Oo
open PySem PySem.Spec PyProof.Rows L2 PySem.W
/-- the slice object at a: its three parts -/
def SlcO (a : Addr) (lo hi st : Option Int) : HO := .ext fun h => ∃ vl vu vs, h.IsSliceOf a vl vu vs ∧ IsPart vl lo ∧ IsPart vu hi ∧ IsPart vs st
theorem slc_ok {P : Program} {w : World} {H : Hp} {h : Heap} {a : Addr} {lo hi st : Option Int} {vl vu vs : Value} (e : h.IsSliceOf a vl vu vs) (p1 : IsPart vl lo) (p2 : IsPart vu hi) (p3 : IsPart vs st) : ObjOk P w H h a (SlcO a lo hi st) := by
  obtain ⟨o, e1, e2, e3⟩ := e
  exact ⟨⟨vl, vu, vs, ⟨o, e1, e2, e3⟩, p1, p2, p3⟩, ⟨o, e1⟩, fun _ _ ⟨vl, vu, vs, ⟨u, b1, b2, b3⟩, c1, c2, c3⟩ k => ⟨vl, vu, vs, ⟨u, k _ b1, b2, b3⟩, c1, c2, c3⟩⟩
theorem FnOk.r0 {P : Program} {w : World} {K : PySem.W.Frag} {mg : Str → Option Value} {base : Heap} {CX : CXT} {k : Nat} {f : Addr} {fd : FuncData} {ps : List Str} {sp : Sp} (F : FnOk P w K mg base CX k f fd ps sp) (hb : Binds K fd ps []) : FnR P w K mg base CX k f sp :=
  (FnOk.raw (ds := []) (dvs := []) F hb .nil).imp fun vs H Q E h => by rw [List.append_nil]; exact h
section
variable {X : Cx} {CX : CXT} {k : Nat} {C f : Addr} {sp : Sp} {E : XK} {pins : List (Addr × Obj)} {σ : L2.St} {H : Hp} {s : Shared}
/-- the own __getitem__ called at the object a with y -/
def rGetO (C : Addr) (sp : Sp) (E : XK) : R2 := fun x y H Q => ∃ a dx fs, x = .ref a ∧ H a = some (.ins C dx fs) ∧ sp [.ref a, y] H Q E
theorem run_at {A : Around} (F : FnR X.prog X.w X.K X.mg X.base CX k f sp) (hr : Room k A) (hx : Passes CX X E) (e0 : Env0 X.prog X.w X.K X.mg X.base A X.stack s H) (I : Inv X pins σ H s) {us : List Value} {vs : List V} {Q : VK} (r : Vals vs us) (q : sp vs H Q E) :
    wpAny (model X.prog X.w) A (call (.ref f) us) (EP X pins σ Q) X.xe s := by
  refine wpAny_call (codeAny_mono (F A X.stack s H us vs Q E hr e0 r q) fun rs s' hq => ?_)
  cases rs with
  | error e => exact hx pins σ H s e s' I hq
  | ok fl =>
    cases fl with
    | ret z => exact I.after hq
    | next => exact False.elim hq
    | brk => exact False.elim hq
    | cont => exact False.elim hq
theorem sub_at {value slice : Expr} (hm : Meth X.K C "__getitem__" f) (hf : fnIn X.K f = true) (F : FnR X.prog X.w X.K X.mg X.base CX k f sp) (hr : Room (k + 1) X.A) (hx : Passes CX X E) {a dx : Addr} {fs : List (Str × V)} {y : V} {u : Value} {Q : VK} (I : Inv X pins σ H s) (ry : RelV y u)
    (ea : H a = some (.ins C dx fs)) (q : sp [.ref a, y] H Q E) (hsl : subscripted slice true (.ref a) u = runValue (.builtin "lifetime.subscript" ⟨[.ref a, u], []⟩) := by with_unfolding_all rfl) :
    wpAny (model X.prog X.w) X.A (subscriptTail value slice (.ref a) u) (EP X pins σ Q) X.xe s := by
  obtain ⟨mA, O, _⟩ := ins_get I.hok ea
  obtain ⟨od, J, _⟩ := O.look
  obtain ⟨m, hF⟩ := I.fr
  exact sub_K hF I.ok.mod.kin J hm.at_ hf hm.fn (run_at F hr.in1 hx I.env0.in1 I (us := [.ref a, u]) (vs := [.ref a, y]) (.cons rfl (.cons ry .nil)) q) hsl
theorem slice_at {value slice : Expr} (hm : Meth X.K C "__getitem__" f) (hf : fnIn X.K f = true) (hq : noSeq X.K C = true) (F : FnR X.prog X.w X.K X.mg X.base CX k f sp) (hr : Room (k + 1) X.A) (hx : Passes CX X E) {a dx : Addr} {fs : List (Str × V)} {y : V} {u : Value} {Q : VK} (I : Inv X pins σ H s) (ry : RelV y u)
    (ea : H a = some (.ins C dx fs)) (q : sp [.ref a, y] H Q E) (hsl : subscripted slice true (.ref a) u = operate [u, .ref a] (getItem (.ref a) u) := by with_unfolding_all rfl) :
    wpAny (model X.prog X.w) X.A (subscriptTail value slice (.ref a) u) (EP X pins σ Q) X.xe s := by
  obtain ⟨mA, O, _⟩ := ins_get I.hok ea
  obtain ⟨od, J, _⟩ := O.look
  obtain ⟨m, hF⟩ := I.fr
  have X₀ : X.K.In s.heap := I.kIn
  unfold fnIn at hf
  split at hf
  · rename_i e
    unfold subscriptTail getitemInPython
    refine wpAny_bind (wpAny_bind (wpAny_bind (J.type.here ((looks_findIn X₀ hm.at_).here ?_))))
    dsimp only
    refine wpAny_bind (wpAny_load (X₀ _ _ e) (wpAny_pure ?_))
    dsimp only
    rw [hsl]
    refine wpAny_bind (wpAny_operateT (getItem_K hF I.ok.mod.kin J hq hm.at_ hm.fn (thn (run_at F (hr.mono (by omega)) hx I.env0 I (us := [.ref a, u]) (vs := [.ref a, y]) (.cons rfl (.cons ry .nil)) q) fun z s' hz => ?_)))
    exact wpAny_bind (wpAny_letTemporaryGo (wpAny_pure hz))
  · cases hf
section
variable {a b : Expr} {ta tb : TE} {lo hi st : Option Expr} {tl th tt : TO} {pos p2 : Pos}
/-- x[i] -/
theorem pe_getO (hm : Meth X.K C "__getitem__" f) (hf : fnIn X.K f = true) (F : FnR X.prog X.w X.K X.mg X.base CX k f sp) (hr : Room (k + 1) X.A) (hx : Passes CX X E) (ha : PE X a ta) (hb : PE X b tb)
    (hsl : ∀ o i, subscripted b true o i = runValue (.builtin "lifetime.subscript" ⟨[o, i], []⟩) := by intro _ _; rfl) : PE X (.Subscript a b pos) (tOp (rGetO C sp E) ta tb) := by
  refine ⟨fun pins s σ H Q I h => ?_⟩
  refine Subscript_ (binT ha hb I h fun v u s2 x y H2 I2 rx ry q => ?_)
  obtain ⟨p, dx, fs, rfl, ea, q⟩ := q
  obtain rfl : v = Value.ref p := rx
  exact sub_at hm hf F hr hx I2 ry ea q (hsl _ _)
/-- x[lo:hi], x[lo:hi:st] -/
def tSlcO (C : Addr) (sp : Sp) (E : XK) (ta : TE) (tl th tt : TO) : TE := fun σ H Q => ta σ H fun x H1 => tl σ H1 fun l H2 => th σ H2 fun u H3 => tt σ H3 fun t H4 => ∀ p, H4 p = none → rGetO C sp E x (.ref p) (upd H4 p (SlcO p l u t)) Q
theorem parts_at {pins : List (Addr × Obj)} {s : Shared} {σ : L2.St} {H : Hp} {R : V → Hp → Prop} {x : V} {W : Value → Shared → Prop} (hl : PO X lo tl) (hu : PO X hi th) (ht : PO X st tt) (I : Inv X pins σ H s)
    (h : tl σ H fun l H2 => th σ H2 fun u H3 => tt σ H3 fun t H4 => ∀ p, H4 p = none → R (.ref p) (upd H4 p (SlcO p l u t))) (hw : ∀ p H' s', Inv X pins σ H' s' → R (.ref p) H' → W (.ref p) s') :
    wpAny (model X.prog X.w) X.A (eval (.Slice lo hi st p2) X.env) W X.xe s := by
  refine wpAny_Slice (thn (hl.run pins s σ H _ I h) fun vl s2 ⟨l, H2, I2, pl, q2⟩ => thn (hu.run pins s2 σ H2 _ I2 q2) fun vu s3 ⟨u, H3, I3, pu, q3⟩ => thn (ht.run pins s3 σ H3 _ I3 q3) fun vs s4 ⟨t, H4, I4, ps, q4⟩ => ?_)
  have J := I4.laid (t' := s4.toks) (o := SlcO s4.heap.objs.size l u t) (fun b ob q => Heap.get?_push_of_some _ q) (Nat.le_refl _) (slc_ok (Heap.IsSliceOf.new s4.heap vl vu vs) pl pu ps)
  exact hw _ _ _ J (q4 _ (I4.hok.fresh (Nat.le_refl _)))
theorem pe_slcO (hm : Meth X.K C "__getitem__" f) (hf : fnIn X.K f = true) (hq : noSeq X.K C = true) (F : FnR X.prog X.w X.K X.mg X.base CX k f sp) (hr : Room (k + 1) X.A) (hx : Passes CX X E) (ha : PE X a ta) (hl : PO X lo tl) (hu : PO X hi th) :
    PE X (.Subscript a (.Slice lo hi none p2) pos) (tSlcO C sp E ta tl th tNoPart) := by
  refine ⟨fun pins s σ H Q I h => ?_⟩
  refine Subscript_ (thn (ha.run pins s σ H _ I h) fun v s1 ⟨x, H1, I1, rx, q⟩ => ?_)
  refine parts_at (x := x) (R := fun y H' => rGetO C sp E x y H' Q) hl hu po_none I1 q fun p H' s' J q' => ?_
  obtain ⟨o, dx, fs, rfl, ea, q'⟩ := q'
  obtain rfl : v = Value.ref o := rx
  exact slice_at hm hf hq F hr hx J (y := .ref p) rfl ea q'
theorem pe_slcO3 {e3 : Expr} (hm : Meth X.K C "__getitem__" f) (hf : fnIn X.K f = true) (F : FnR X.prog X.w X.K X.mg X.base CX k f sp) (hr : Room (k + 1) X.A) (hx : Passes CX X E) (ha : PE X a ta) (hl : PO X lo tl) (hu : PO X hi th) (ht : PO X (some e3) tt) :
    PE X (.Subscript a (.Slice lo hi (some e3) p2) pos) (tSlcO C sp E ta tl th tt) := by
  refine ⟨fun pins s σ H Q I h => ?_⟩
  refine Subscript_ (thn (ha.run pins s σ H _ I h) fun v s1 ⟨x, H1, I1, rx, q⟩ => ?_)
  refine parts_at (x := x) (R := fun y H' => rGetO C sp E x y H' Q) hl hu ht I1 q fun p H' s' J q' => ?_
  obtain ⟨o, dx, fs, rfl, ea, q'⟩ := q'
  obtain rfl : v = Value.ref o := rx
  exact sub_at hm hf F hr hx J (y := .ref p) rfl ea q'
end
end
end Oo
set_option Elab.async false
set_option linter.all false
set_option maxRecDepth 100000
set_option maxHeartbeats 1000000
/-! name = {k: v for ..} on one line, the name a local. -/
namespace Oo
open PySem PySem.Spec PyProof.Rows L2
section
variable {X : Cx}
theorem sw_dict {kx vx : Expr} {gs : List Comprehension} {scope : Scope} {pos py : Pos} {y : Str} {l : Nat} {env : Env} (a : env.scope.kind = .function) (b : env.scope.names.lookup y = some .local) (c : (py.line == pos.line) = true)
    (d : (scope.names.any fun (n, k) => n == y && (k == .local || k == .cell)) = false) : swapsWith (.DictComp kx vx gs scope pos) (some (.Name y py)) l env = pure true := by
  have e1 : env.kindOf y = some .local := b
  have e2 : env.blockKind = .function := by unfold Env.blockKind; rw [a]; rfl
  unfold swapsWith
  simp only [e2, e1, d, Expr.pos, c]
  rfl
theorem ps_setDc {i : Nat} {y : Str} {py : Pos} {kx vx tg iter : Expr} {ifs : List Expr} {scope : Scope} {own : List (Str × Nat)} {pos spos : Pos} {wi : TI} {g : TG} {tt : TT} {tk tv : TE} (hc : X.calm = true) (hN : X.N.Nodup) (hy : X.N[i]? = some y) (hyl : X.env.scope.names.lookup y = some .local)
    (hsw : swapsWith (.DictComp kx vx [⟨tg, iter, ifs, 0⟩] scope pos) (some (.Name y py)) spos.line X.env = pure true) (hi : PI X tg iter wi) (ok : BlkOk X.N X.env.scope scope own)
    (hg : ∀ (s : Shared) (H : Hp) (C : Addr) (cl : List (Str × Addr)) (fp : List Addr), PG (X.blk s H scope (compEnvC scope cl C X.env) fp) tg g) (ht : ∀ (s : Shared) (H : Hp) (C : Addr) (cl : List (Str × Addr)) (fp : List Addr), PTs (X.blk s H scope (compEnvC scope cl C X.env) fp) ifs tt)
    (hk : ∀ (s : Shared) (H : Hp) (C : Addr) (cl : List (Str × Addr)) (fp : List Addr), PE (X.blk s H scope (compEnvC scope cl C X.env) fp) kx tk)
    (he : ∀ (s : Shared) (H : Hp) (C : Addr) (cl : List (Str × Addr)) (fp : List Addr), PE (X.blk s H scope (compEnvC scope cl C X.env) fp) vx tv) (hs : ∀ x, foldedSetIterable iter X.env x = pure x := by intro _; rfl) :
    PS X (.Assign [.Name y py] (.DictComp kx vx [⟨tg, iter, ifs, 0⟩] scope pos) spos) (tAsg (tDc wi g tt tk tv (own.map (·.2))) (gName i)) := by
  refine ⟨fun pins s σ H D I h => ?_⟩
  rw [exec_Assign_Name_used _ _ _ _ hsw]
  refine wpAny_bind (wpAny_standAt (wpAny_bind ?_))
  have h : tDc wi g tt tk tv (own.map (·.2)) σ H (fun x H1 => gName i x σ H1 D.nx) := h
  show wpAny _ X.A (do let _ ← comprehension (.DictComp kx vx [⟨tg, iter, ifs, 0⟩] scope pos) scope X.env (firstIterPos [⟨tg, iter, ifs, 0⟩] pos) newDict false (eval iter X.env) (some (assign (.Name y py) X.env))) _ _ s
  refine wpAny_bind (thn (dc_core (Qf := fun _ s' => SP X pins D .next s') hc hN I hi ok hg ht hk he hs h fun L C s' m H' J q hn fp => ?_) fun _ s' z => wpAny_pure (wpAny_pure z))
  show wpAny _ _ (assign (.Name y py) X.env (.ref L)) _ _ _
  obtain ⟨g0, g1, g2, g3, g4, g5⟩ := fp
  refine wpAny_assign_Name (store_ok2 (v := V.ref L) J hN hy (.inl hyl) rfl (fun s2 J2 ⟨a, sb, ha⟩ => ?_) (.inr hyl))
  have ne : C ≠ a := ha.elim (fun z => z ▸ g1) fun z e => g4 y a z e.symm
  refine ⟨m, hn.sameBut sb ne, fun h3 sb3 => ?_⟩
  exact ⟨_, H', J2.turned (t' := s2.toks) (fun b o hb e => (sb3.2 b hb).trans e) g0 g1 g3 g4 g5, q⟩
end
end Oo
set_option Elab.async false
set_option linter.all false
set_option maxRecDepth 100000
set_option maxHeartbeats 1000000
namespace K6
open PySem PySem.Spec PyProof.Rows L2 RV EV He EF EI
abbrev lAd (K : PySem.W.Frag) (m : Str) : Addr := ma K (gO K) m
abbrev scLi_N : List Str := ["self", "fixes", "fix", "unlike"]
theorem scLi : FnScope scLi_N ["self", "fixes"] (defScope (lSt 1)) := ⟨rfl, rfl, rfl, by decide +kernel, rfl, by decide +kernel, by decide +kernel⟩
section
variable {P : Program} {w : World} {K : PySem.W.Frag} {mg : Str → Option Value} {base : Heap}
theorem cread (T : KF P w K mg base) : ClX.CRead K (gO K) (.type "type") := by
  obtain ⟨_, h⟩ := ba T.l4
  obtain ⟨h1, h⟩ := ba h
  obtain ⟨h2, _⟩ := ba h
  exact ⟨h1, eqO_ok h2⟩
theorem most (T : KF P w K mg base) : ∃ t, ClX.CVal K (gO K) (.type "type") "MOST" (.int 8) (.int 8 t) := by
  obtain ⟨h, _⟩ := ba T.l4
  unfold mostB at h
  split at h
  · rename_i n t e
    have := of_decide_eq_true h
    subst this
    exact ⟨t, e, ⟨t, rfl⟩⟩
  · cases h
/-- what is no fix -/
def NoFix (K : PySem.W.Frag) (H : Hp) (v : V) : Prop := (∃ x, v = .str x ∧ x.length ≤ 1000000 ∧ isFixB x = false) ∨ ∃ t, TyX K H v t ∧ PySem.W.kitOne K t (.type "str") = some false
theorem fix_len {x : Str} (h : isFixB x = true) : x.length ≤ 8 := by
  unfold isFixB at h
  obtain ⟨_, h⟩ := ba h
  obtain ⟨h, _⟩ := ba h
  have := of_decide_eq_true h
  omega
/-- names that are looked at one by one -/
def Chk (K : PySem.W.Frag) (xs : List V) (H : Hp) (E : XK) (R : List Str → Hp → Prop) : Prop :=
  (∃ ss : List Str, xs = ss.map V.str ∧ (∀ x ∈ ss, isFixB x = true) ∧ ∀ H', Same H H' → R ss H') ∨
  (∃ (ss : List Str) (v : V) (rest : List V), xs = ss.map V.str ++ v :: rest ∧ (∀ x ∈ ss, isFixB x = true) ∧ ∀ H', Same H H' → NoFix K H' v ∧ Bad1 (ga K "BadFix") "value" H' E v)
def tCk (K : PySem.W.Frag) (E : XK) : TS := tFor (iTup K (tVar 1)) (gName 2) (tIfS (tNot (tB (tCall (spFix K) [] E0 (tCons (tVar 2) tNil)))) (tRaise1 (ga K "BadFix") "value" (tVar 2) fun cls d x H => E cls d H) tNext)
theorem sp_fix {H : Hp} {v : V} {E : XK} {Q : VK} (h : (∃ x, v = .str x ∧ isFixB x = true) ∨ NoFix K H v) (q : ∀ H', Same H H' → ∀ b, b = (match v with | .str x => isFixB x | _ => false) → Q (.bl b) H') : spFix K [v] H Q E := by
  rcases h with ⟨x, rfl, hx⟩ | ⟨x, rfl, hz, hx⟩ | ⟨t, ht, hk⟩
  · exact ⟨_, rfl, .inl ⟨x, rfl, Nat.le_trans (fix_len hx) (by decide), fun H' s' => q H' s' _ rfl⟩⟩
  · exact ⟨_, rfl, .inl ⟨x, rfl, hz, fun H' s' => q H' s' _ rfl⟩⟩
  · refine ⟨_, rfl, .inr ⟨t, ht, hk, q H (fun _ _ e => e) _ ?_⟩⟩
    cases v with
    | str x =>
      have e : t = .type "str" := by
        cases ht with
        | base h => cases h; rfl
      subst e
      exact absurd hk (by rw [kit_ty (by decide +kernel : kitB "str" "str" = some true)]; intro z; cases z)
    | _ => rfl
theorem ck_read {s0 : V} {T : Addr} {xs : List V} {H : Hp} {E : XK} {D : Ends} (sq : ∀ H', Same H H' → SqT K H' T xs) (c : Chk K xs H E fun ss H' => ∀ o, D.nx [some s0, some (.ref T), o, none] H') : tCk K E D [some s0, some (.ref T), none, none] H := by
  have one : ∀ (ss : List Str) (n : Nat), (∀ x ∈ ss, isFixB x = true) → ∀ i x (H1 : Hp) (R : Hp → Prop) (σ : L2.St), xs[i]? = some x → i < ss.length → (∀ j, j < ss.length → xs[j]? = (ss[j]?).map V.str) → (∀ H', Same H1 H' → R H') → ∀ D' : Ends, (∀ σ' H', R H' → σ' = σ → D'.nx σ' H') → σ[2]? = some (some x) →
      tIfS (tNot (tB (tCall (spFix K) [] E0 (tCons (tVar 2) tNil)))) (tRaise1 (ga K "BadFix") "value" (tVar 2) fun cls d x H => E cls d H) tNext D' σ H1 := by
    intro ss n hf i x H1 R σ hx hi hj hR D' hD hs
    rw [hj i hi] at hx
    have hz : ss[i]? = some ss[i] := List.getElem?_eq_getElem hi
    rw [hz] at hx
    obtain rfl := Option.some.inj hx
    have hfx := hf _ (List.getElem_mem hi)
    refine ⟨_, hs, ?_⟩
    unfold tNil
    show spFix K [V.str ss[i]] H1 _ _
    refine sp_fix (.inl ⟨_, rfl, hfx⟩) fun H' s' b hb => ⟨b, rfl, if_negB ?_ (hD _ _ (hR H' s') rfl)⟩
    rw [hb]
    show (!isFixB ss[i]) = false
    rw [hfx]
    rfl
  rcases c with ⟨ss, rfl, hf, k⟩ | ⟨ss, v, rest, rfl, hf, k⟩
  · refine ⟨_, rfl, T, rfl, ⟨_, sq H fun _ _ e => e⟩, for_it (walk_tup (xs := ss.map V.str)) (fun i σ' H' => (∃ o, σ' = [some s0, some (.ref T), o, none]) ∧ Same H H') ⟨⟨_, rfl⟩, fun _ _ e => e⟩ (fun i σ' H' _ p => sq H' p.2) ?_ ?_⟩
    · rintro i x σ' H1 H2 hi ⟨⟨o, rfl⟩, s1⟩ ⟨rfl, hx⟩
      have hl : i < ss.length := by rw [List.length_map] at hi; exact hi
      exact one ss 0 hf i x _ (fun H' => Same H H') _ hx hl (fun j _ => by rw [List.getElem?_map]) (fun H' s' => s1.trans s') _ (fun σ2 H2 r e => ⟨⟨some x, e⟩, r⟩) rfl
    · rintro σ' H' ⟨⟨o, rfl⟩, s1⟩
      exact k H' s1 o
  · refine ⟨_, rfl, T, rfl, ⟨_, sq H fun _ _ e => e⟩, for_it (walk_tup (xs := ss.map V.str ++ v :: rest)) (fun i σ' H' => (∃ o, σ' = [some s0, some (.ref T), o, none]) ∧ Same H H' ∧ i ≤ ss.length) ⟨⟨_, rfl⟩, fun _ _ e => e, Nat.zero_le _⟩ (fun i σ' H' _ p => sq H' p.2.1) ?_ ?_⟩
    · rintro i x σ' H1 H2 hi ⟨⟨o, rfl⟩, s1, hle⟩ ⟨rfl, hx⟩
      by_cases hl : i < ss.length
      · refine one ss 0 hf i x _ (fun H' => Same H H') _ hx hl (fun j hj => ?_) (fun H' s' => s1.trans s') _ (fun σ2 H2 r e => ⟨⟨some x, e⟩, r, hl⟩) rfl
        rw [List.getElem?_append_left (by rw [List.length_map]; exact hj), List.getElem?_map]
      · have e : i = ss.length := by omega
        subst e
        rw [List.getElem?_append_right (by rw [List.length_map]; exact Nat.le_refl _), List.length_map, Nat.sub_self] at hx
        obtain rfl : v = x := Option.some.inj hx
        obtain ⟨nf, bd⟩ := k _ s1
        refine ⟨_, rfl, ?_⟩
        unfold tNil
        show spFix K [v] _ _ _
        refine sp_fix (.inr nf) fun H' s' b hb => ⟨b, rfl, if_posB ?_ ⟨_, rfl, mkb1 (k H' (s1.trans s')).2⟩⟩
        rw [hb]
        rcases nf with ⟨x, rfl, _, h⟩ | ⟨t, ht, hk⟩
        · show (!isFixB x) = true
          rw [h]; rfl
        · cases v with
          | str x =>
            have e : t = .type "str" := by
              cases ht with
              | base h => cases h; rfl
            subst e
            exact absurd hk (by rw [kit_ty (by decide +kernel : kitB "str" "str" = some true)]; intro z; cases z)
          | _ => rfl
    · rintro σ' H' ⟨_, _, hle⟩
      rw [List.length_append, List.length_map, List.length_cons] at hle
      omega
end
end K6
set_option Elab.async false
set_option linter.all false
set_option maxRecDepth 100000
set_option maxHeartbeats 1000000
/-! Lot.__init__, further: the dict of unlike names, and what is kept. -/
namespace K6
open PySem PySem.Spec PyProof.Rows L2 RV EV He EF EI
def firstsA : List Str → List Str → List Str
  | acc, [] => acc
  | acc, x :: r => firstsA (if x ∈ acc then acc else acc ++ [x]) r
abbrev firsts (ss : List Str) : List Str := firstsA [] ss
theorem firstsA_snoc {x : Str} : ∀ (l acc : List Str), firstsA acc (l ++ [x]) = if x ∈ firstsA acc l then firstsA acc l else firstsA acc l ++ [x]
  | [], _ => rfl
  | y :: r, acc => firstsA_snoc r _
theorem mem_firstsA {a : Str} : ∀ (l acc : List Str), a ∈ firstsA acc l ↔ a ∈ acc ∨ a ∈ l
  | [], acc => by simp [firstsA]
  | x :: r, acc => by
    show a ∈ firstsA _ r ↔ _
    rw [mem_firstsA r]
    by_cases h : x ∈ acc
    · rw [if_pos h, List.mem_cons]
      constructor
      · rintro (h1 | h1)
        · exact .inl h1
        · exact .inr (.inr h1)
      · rintro (h1 | rfl | h1)
        · exact .inl h1
        · exact .inl h
        · exact .inr h1
    · rw [if_neg h, List.mem_append, List.mem_singleton, List.mem_cons, or_assoc]
theorem nodup_firstsA : ∀ (l acc : List Str), acc.Nodup → (firstsA acc l).Nodup
  | [], acc, h => h
  | x :: r, acc, h => by
    refine nodup_firstsA r _ ?_
    by_cases e : x ∈ acc
    · rw [if_pos e]; exact h
    · rw [if_neg e]
      refine List.nodup_append.mpr ⟨h, by simp, ?_⟩
      intro a ha b hb
      rw [List.mem_singleton.mp hb]
      exact fun z => e (z ▸ ha)
theorem len_firstsA : ∀ (l acc : List Str), (firstsA acc l).length ≤ acc.length + l.length
  | [], acc => Nat.le_refl _
  | x :: r, acc => by
    have := len_firstsA r (if x ∈ acc then acc else acc ++ [x])
    show (firstsA _ r).length ≤ _
    have h2 : (if x ∈ acc then acc else acc ++ [x]).length ≤ acc.length + 1 := by
      split
      · omega
      · simp
    rw [List.length_cons]
    omega
theorem mem_firsts {a : Str} {l : List Str} : a ∈ firsts l ↔ a ∈ l := by rw [mem_firstsA]; simp
theorem nodup_firsts {l : List Str} : (firsts l).Nodup := nodup_firstsA l [] List.nodup_nil
theorem lined_firsts {l : List Str} : lined (firsts l) = lined l := lined_eq fun _ => mem_firsts
theorem lined_perm {l : List Str} (h : l.Nodup) : (lined l).Perm l := (List.perm_ext_iff_of_nodup (asc_nodup (asc_lined l)) h).mpr fun _ => mem_lined
theorem len_firsts {l : List Str} : (firsts l).length = (lined l).length := by
  rw [← lined_firsts]
  exact (lined_perm nodup_firsts).length_eq.symm
def kvsOf (l : List Str) : List (Key × V) := l.map fun x => (Sum.inr x, V.bl true)
theorem put_firsts (acc : List Str) (x : Str) : putK (kvsOf acc) (Sum.inr x) (V.bl true) = kvsOf (if x ∈ acc then acc else acc ++ [x]) := by
  unfold putK
  have e : ((kvsOf acc).any fun kv => decide (kv.1 = Sum.inr x)) = decide (x ∈ acc) := by
    unfold kvsOf
    induction acc with
    | nil => rfl
    | cons y r ih =>
      rw [List.map_cons, List.any_cons, ih]
      by_cases h : x = y
      · subst h; simp
      · have h2 : y ≠ x := fun z => h z.symm
        have h3 : (Sum.inr y : Key) ≠ Sum.inr x := fun z => h2 (Sum.inr.inj z)
        simp [h, h3]
  rw [e]
  by_cases h : x ∈ acc
  · rw [if_pos (decide_eq_true h), if_pos h]
    unfold kvsOf
    rw [List.map_map]
    refine List.map_congr_left fun y _ => ?_
    show (if (Sum.inr y : Key) = Sum.inr x then _ else _) = _
    split <;> rfl
  · rw [if_neg (by rw [decide_eq_false h]; exact Bool.false_ne_true), if_neg h]
    unfold kvsOf
    rw [List.map_append]
    rfl
section
variable {P : Program} {w : World} {K : PySem.W.Frag} {mg : Str → Option Value} {base : Heap}
def tDd (K : PySem.W.Frag) : TS := tAsg (tDc (iTup K (tVar 1)) (gName 2) tYes (tVar 2) (tC (V.bl true)) [2]) (gName 3)
theorem dd_read {s0 : V} {T : Addr} {o : Option V} {ss : List Str} {H : Hp} {D : Ends} (sq : ∀ H', Same H H' → SqT K H' T (ss.map V.str)) (hz : ss.length ≤ 1000) (k : ∀ d H', H d = none → Same H H' → H' d = some (.dK (kvsOf (firsts ss))) → D.nx [some s0, some (.ref T), o, some (.ref d)] H') :
    tDd K D [some s0, some (.ref T), o, none] H := by
  refine ⟨_, rfl, T, rfl, ⟨_, sq H fun _ _ e => e⟩, fun d nd => ?_⟩
  refine dc_tup (xs := ss.map V.str) (fun i H' => Same H H' ∧ H' d = some (.dK (kvsOf (firsts (ss.take i))))) ⟨fun c u e => by rw [upd_ne (ne_of_none e nd)]; exact e, upd_same⟩ (fun i H' _ p => sq H' p.1) ?_ ?_
  · rintro i x H' hx ⟨s1, hd⟩
    rw [List.getElem?_map] at hx
    cases e : ss[i]? with
    | none => rw [e] at hx; exact nomatch hx
    | some z =>
      rw [e] at hx
      obtain rfl : V.str z = x := Option.some.inj hx
      obtain ⟨hl, hv⟩ := List.getElem?_eq_some_iff.mp e
      refine ⟨rfl, yesB ?_⟩
      refine ⟨_, rfl, kvsOf (firsts (ss.take i)), Sum.inr z, rfl, hd, ?_, fun c u e => ?_, ?_⟩
      · have : (firsts (ss.take i)).length ≤ _ := len_firstsA (ss.take i) []
        unfold kvsOf
        rw [List.length_map, sizeLine_eq]
        rw [List.length_take, List.length_nil] at this
        omega
      · rw [upd_ne (ne_of_none e nd)]
        exact s1 c u e
      · rw [upd_same, put_firsts]
        have more : ss.take (i + 1) = ss.take i ++ [z] := by rw [← hv]; exact List.take_succ_eq_append_getElem hl
        rw [more]
        show _ = some (HO.dK (kvsOf (firstsA [] _)))
        rw [firstsA_snoc]
  · rintro H' ⟨s1, hd⟩
    rw [List.length_map, List.take_of_length_le (Nat.le_refl _)] at hd
    exact k d H' nd s1 hd
abbrev rTupL (K : PySem.W.Frag) : List V → Hp → VK → Prop := fun xs H Q => ∃ p ys, xs = [V.ref p] ∧ ((SqL K H p ys ∧ ∀ (l : Addr), H l = none → Q (V.ref l) (upd H l (HO.tup ys))) ∨ SqT K H p ys ∧ Q (V.ref p) H)
abbrev teStr (i : Nat) : TE := tCB (fun xs H Q => ∃ a, xs = [V.str a] ∧ Q (V.str a) H) (tCons (tVar i) tNil)
def tMost (K : PySem.W.Frag) : TE := ClX.tCVal K (tC (V.ref (gO K))) "MOST"
def tMany (K : PySem.W.Frag) (E : XK) : TS := tIfS (tTest (tOp (rI0 fun i j => V.bl (decide (j < i))) (tCB (fun xs H Q => ∃ a kvs, xs = [V.ref a] ∧ H a = some (HO.dK kvs) ∧ Q (V.int kvs.length) H) (tCons (tVar 3) tNil)) (tMost K)))
  (tRaise2 (ga K "TooMany") "what" "most" (tC (V.str "fixes")) (tMost K) fun cls d x H => E cls d H) tNext
def tKeep (K : PySem.W.Frag) : TS := sFld K (tVar 0) (tCB (rTupL K) (tCons (tCB (rSortedS K) (tCons (tLockE (tLc (iKeys (tVar 3)) (gName 2) tYes (teStr 2) [2])) tNil)) tNil)) "fixes"
theorem most_read (T : KF P w K mg base) {σ : L2.St} {H : Hp} {Q : VK} (k : Q (.int 8) H) : tMost K σ H Q := by
  obtain ⟨t, cv⟩ := most T
  exact ⟨gO K, .type "type", .int 8, _, rfl, cread T, cv, k⟩
theorem many_read (T : KF P w K mg base) {s0 : V} {tp d : Addr} {o : Option V} {l : List Str} {H : Hp} {E : XK} {D : Ends} (hd : H d = some (.dK (kvsOf l))) (k1 : l.length ≤ 8 → D.nx [some s0, some (.ref tp), o, some (.ref d)] H)
    (k2 : 8 < l.length → Bad2 (ga K "TooMany") "what" "most" H E (.str "fixes") (.int 8)) : tMany K E D [some s0, some (.ref tp), o, some (.ref d)] H := by
  have hl : (kvsOf l).length = l.length := List.length_map _
  refine ⟨_, rfl, d, _, rfl, hd, most_read T ⟨_, 8, rfl, rfl, _, rfl, ?_⟩⟩
  rw [hl]
  by_cases h : 8 < l.length
  · exact if_posB (decide_eq_true (by omega)) (most_read (σ := [some s0, some (.ref tp), o, some (.ref d)]) T (mkb2 (k2 h)))
  · exact if_negB (decide_eq_false (by omega)) (k1 (by omega))
theorem keep_read (T : KF P w K mg base) {p dx tp d : Addr} {o : Option V} {l : List Str} {H : Hp} {D : Ends} (hp : H p = some (.ins (gO K) dx [])) (hd : H d = some (.dK (kvsOf l))) (hn : l.Nodup) (hl : l.length ≤ 8)
    (k : ∀ H' t, Same2 H H' p → H' p = some (.ins (gO K) dx [("fixes", .ref t)]) → H' t = some (.tup ((lined l).map V.str)) → D.nx [some (.ref p), some (.ref tp), o, some (.ref d)] H') : tKeep K D [some (.ref p), some (.ref tp), o, some (.ref d)] H := by
  refine ⟨d, _, hd, trivial, fun od => ⟨_, rfl, d, od, rfl, .inl ⟨kvsOf l, upd_same, fun r nr => ?_⟩⟩⟩
  have ndr : d ≠ r := ne_of_none upd_same nr
  have nr0 : H r = none := by rw [upd_ne ndr.symm] at nr; exact nr
  refine lc_it (walk_keys (kvs := kvsOf l)) (fun i H' => (∀ c u, c ≠ d → H c = some u → H' c = some u) ∧ H' d = some (.frz od (.dK (kvsOf l))) ∧ H' r = some (.lst ((l.take i).map V.str))) ⟨fun c u hc e => ?_, ?_, upd_same⟩ (fun i H' _ q => q.2.1) ?_ ?_
  · rw [upd_ne (ne_of_none e nr0), upd_ne hc]
    exact e
  · rw [upd_ne ndr]
    exact upd_same
  · rintro i x H1 H2 hi ⟨s1, hd1, hr1⟩ ⟨rfl, key, v, hk, rfl⟩
    unfold kvsOf at hk
    rw [List.getElem?_map] at hk
    cases e : l[i]? with
    | none => rw [e] at hk; exact nomatch hk
    | some z =>
      rw [e] at hk
      obtain ⟨rfl, _⟩ := Prod.mk.inj (Option.some.inj hk)
      obtain ⟨hil, hv⟩ := List.getElem?_eq_some_iff.mp e
      refine ⟨rfl, yesB ⟨_, rfl, z, rfl, _, hr1, ?_, fun c u hc e2 => ?_, ?_, ?_⟩⟩
      · rw [List.length_map, List.length_take, sizeLine_eq]
        omega
      · rw [upd_ne (ne_of_none e2 nr0)]
        exact s1 c u hc e2
      · rw [upd_ne ndr]
        exact hd1
      · rw [upd_same]
        have more : l.take (i + 1) = l.take i ++ [z] := by rw [← hv]; exact List.take_succ_eq_append_getElem hil
        rw [more, List.map_append]
        rfl
  · rintro H1 ⟨s1, hd1, hr1⟩
    rw [show (kvsOf l).length = l.length from List.length_map _, List.take_of_length_le (Nat.le_refl _)] at hr1
    refine ⟨hd1, ?_⟩
    have sm : ∀ c u, H c = some u → upd H1 d (.dK (kvsOf l)) c = some u := fun c u e => by
      by_cases hc : c = d
      · subst hc
        rw [upd_same, ← hd]
        exact e
      · rw [upd_ne hc]
        exact s1 c u hc e
    refine ⟨r, l, rfl, SqL.of (by rw [upd_ne ndr.symm]; exact hr1), by omega, fun ys q hy hs nq => ⟨q, _, rfl, .inl ⟨SqL.of upd_same, fun t nt => ?_⟩⟩⟩
    have ey : ys = lined l := sorted_lined hy hs hn
    subst ey
    have p1 := sm p _ hp
    have n1 : p ≠ q := ne_of_none p1 nq
    have p2 : upd (upd H1 d (.dK (kvsOf l))) q (.lst ((lined l).map V.str)) p = some (.ins (gO K) dx []) := by rw [upd_ne n1]; exact p1
    have n2 : p ≠ t := ne_of_none p2 nt
    refine ⟨_, rfl, p, gO K, dx, _, rfl, by rw [upd_ne n2]; exact p2, T.clo, T.noF, by show 0 < 1000; decide, ?_⟩
    refine k _ t (fun c u hc e => ?_) ?_ ?_
    · have e1 := sm c u e
      have c1 : c ≠ q := ne_of_none e1 nq
      have e2 : upd (upd H1 d (.dK (kvsOf l))) q (.lst ((lined l).map V.str)) c = some u := by rw [upd_ne c1]; exact e1
      rw [upd_ne hc, upd_ne (ne_of_none e2 nt)]
      exact e2
    · rw [upd_same]; rfl
    · rw [upd_ne n2.symm]
      exact upd_same
end
end K6
set_option Elab.async false
set_option linter.all false
set_option maxRecDepth 100000
set_option maxHeartbeats 1000000
/-! Lot.__init__ keeps its promise. -/
namespace K6
open PySem PySem.Spec PyProof.Rows L2 RV EV He EF EI
/-- what follows when the names ss are taken: so many that they fit, or too many -/
def LotQ (K : PySem.W.Frag) (p dx : Addr) (E : XK) (Q : VK) (ss : List Str) (H' : Hp) : Prop :=
  ((lined ss).length ≤ 8 → ∀ H2 t, Same2 H' H2 p → H2 p = some (.ins (gO K) dx [("fixes", .ref t)]) → H2 t = some (.tup ((lined ss).map V.str)) → Q .non H2) ∧
  (8 < (lined ss).length → ∀ H2, Same H' H2 → Bad2 (ga K "TooMany") "what" "most" H2 E (.str "fixes") (.int 8))
def spLi (K : PySem.W.Frag) : Sp := fun vs H Q E => ∃ p dx T xs, vs = [.ref p, .ref T] ∧ H p = some (.ins (gO K) dx []) ∧ H T = some (.tup xs) ∧ xs.length ≤ 1000 ∧ Chk K xs H E (LotQ K p dx E Q)
section
variable {P : Program} {w : World} {K : PySem.W.Frag} {mg : Str → Option Value} {base : Heap}
theorem ok_li (T : KF P w K mg base) : FnR P w K mg base (L2.CX P w) 4 (lAd K "__init__") (spStar (spLi K)) := by
  obtain ⟨_, fd, F⟩ := T.lot ("__init__", 1) (by decide)
  obtain ⟨fdF, FF, gF⟩ := T.tops ("is_fix", 4) (by decide)
  have GF : FnOk P w K mg base CX0 1 (ga K "is_fix") fdF ["value"] (spFix K) := ok_fix FF (blt2 T)
  have bF : L2.Binds K fdF ["value"] [] := FunD.bindsN FF fun _ _ _ _ _ _ us hl => match us, hl with | [_], _ => rfl
  obtain ⟨oc, od, dV, kV, doc, pm, an, cdv, ct, osl, rfl, lk, hcd, hD, hK⟩ := F.ex
  rcases hD with ⟨_, rfl⟩ | ⟨e, _⟩
  case inr => exact absurd rfl e
  refine StX.fn_star (ps := ["self"]) (pv := "fixes") lk hcd scLi StX.cxUp (StX.bind_star1 (B := fun us => bindArgs _ ⟨us, []⟩) (fun a => rfl) fun a r rs => rfl) fun A outer s H vs Q E hr h => ?_
  obtain ⟨p, dx, Ta, xs, rfl, hp, hT, hz, c⟩ := h
  refine ⟨_, pss_cons (ps_for (passes_of rfl) rfl (pi_tup (pv 1)) (pg_name (i := 2) scLi.nd rfl (.inl rfl))
      (pss_one (ps_if (pt_not (pt_val (pe_call (E := E0) GF (hr.mono (by decide)) (by rfl) gF FF.kp bF .nil pass0 (pa_cons (pv 2) pa_nil))))
        (pss_one (ps_raise1 T.bf (hr.mono (by decide)) rfl (takes_of rfl rfl rfl rfl) (by rfl) (pv 2))) pss_nil)))
    (pss_cons (Oo.ps_setDc (i := 3) (own := [("fix", 2)]) (g := gName 2) (tt := tYes) (tk := tVar 2) (tv := tC (.bl true)) rfl scLi.nd rfl rfl (Oo.sw_dict rfl rfl rfl rfl) (pi_tup (pv 1)) (blkOk_by (N := scLi_N) (sc := defScope (lSt 1)) (by decide +kernel))
        (fun _ _ _ _ _ => pg_name (i := 2) scLi.nd rfl (.inl rfl)) (fun _ _ _ _ _ => pts_nil) (fun _ _ _ _ _ => pv 2) (fun _ _ _ _ _ => pe_bl))
    (pss_cons (ps_if (pt_cmpR op_gt (pe_callB call_lenD (by rfl) (T.fr "len" (by decide)) PySem.boot_len (pa_cons (pv 3) pa_nil)) (ClX.pe_cval (pe_glob (v := .ref (gO K)) (by rfl) T.go rfl)) (nomark _))
        (pss_one (ps_raise2 T.tm (hr.mono (by decide)) rfl (takes_of rfl rfl rfl rfl) (by rfl) pe_str (ClX.pe_cval (pe_glob (v := .ref (gO K)) (by rfl) T.go rfl)))) pss_nil)
    (pss_one (ps_fld (pv 0) (pe_callTy call_tuple_of (by rfl) (T.fr "tuple" (by decide)) boot_T (pa_cons (pe_callB cr_sortedS (by rfl) (T.fr "sorted" (by decide)) (by decide +kernel)
        (pa_cons (pe_lock (pe_lc (own := [("fix", 2)]) (g := gName 2) (tt := tYes) rfl scLi.nd (pi_keys (pv 3)) (blkOk_by (N := scLi_N) (sc := defScope (lSt 1)) (by decide +kernel))
          (fun _ _ _ _ _ => pg_name (i := 2) scLi.nd rfl (.inl rfl)) (fun _ _ _ _ _ => pts_nil) (fun _ _ _ _ _ => pe_callTy SkE.call_str_str (by rfl) (T.fr "str" (by decide)) boot_T (pa_cons (pv 2) pa_nil)))) pa_nil)) pa_nil)) rfl)))), ?_⟩
  show tSeq (tCk K E) (tSeq (tDd K) (tSeq (tMany K E) (tKeep K))) { nx := fun _ H' => Q .non H', rt := Q } [some (.ref p), some (.ref Ta), none, none] H
  refine ck_read (xs := xs) (fun H' s' => SqT.of (s' _ _ hT)) ?_
  have go : ∀ (ss : List Str), xs = ss.map V.str → ∀ H', Same H H' → LotQ K p dx E Q ss H' → ∀ o, tSeq (tDd K) (tSeq (tMany K E) (tKeep K)) { nx := fun _ H' => Q .non H', rt := Q } [some (.ref p), some (.ref Ta), o, none] H' := by
    intro ss ex H1 s1 q o
    have hz' : ss.length ≤ 1000 := by rw [ex, List.length_map] at hz; exact hz
    refine dd_read (ss := ss) (fun H' s' => SqT.of (by rw [← ex]; exact s' _ _ (s1 _ _ hT))) hz' fun d H2 nd s2 hd => ?_
    refine many_read T hd (fun hl => ?_) fun hl => ?_
    · refine keep_read T (s2 _ _ (s1 _ _ hp)) hd nodup_firsts hl fun H3 t s3 e1 e2 => ?_
      rw [lined_firsts] at e2
      rw [len_firsts] at hl
      exact q.1 hl H3 t (fun c u hc e => s3 c u hc (s2 c u e)) e1 e2
    · rw [len_firsts] at hl
      exact q.2 hl H2 s2
  rcases c with ⟨ss, ex, hf, k⟩ | ⟨ss, v, rest, ex, hf, k⟩
  · exact .inl ⟨ss, ex, hf, fun H' s' o => go ss ex H' s' (k H' s') o⟩
  · exact .inr ⟨ss, v, rest, ex, hf, k⟩
end
end K6
set_option Elab.async false
set_option linter.all false
set_option maxRecDepth 100000
set_option maxHeartbeats 1000000
/-! C(*xs), c(*xs) by a local name, C(), C.m(e) of a static method, C.m(k = e) of a class method. -/
namespace Oo
open PySem PySem.Spec PyProof.Rows L2 PySem.W
section
variable {X : Cx} {CX : CXT} {k : Nat} {C f g p : Addr} {sp : Sp} {E : XK} {mc : Value}
/-- what is asked of __init__ when an instance of the class at C is made with the values vs -/
def wNew (C : Addr) (sp : Sp) (E : XK) (vs : List V) (H1 : Hp) (Q : VK) : Prop := ∀ x dx, H1 x = none → H1 dx = none → dx ≠ x → sp (V.ref x :: vs) (upd (upd H1 dx (.own x)) x (.ins C dx [])) (fun v H2 => v = .non ∧ Q (.ref x) H2) E
def tStarNew (K : Frag) (C : Addr) (sp : Sp) (E : XK) (te : TE) : TE := fun σ H Q => te σ H fun y H1 => ∃ a xs, y = V.ref a ∧ (SqT K H1 a xs ∨ SqL K H1 a xs) ∧ wNew C sp E xs H1 Q
section
variable {x : Str} {e : Expr} {te : TE} {sp_ p1 pos : Pos}
theorem pe_newS (M : Mk X.K C f) (F : FnR X.prog X.w X.K X.mg X.base CX k f sp) (hr : Room (k + 1) X.A) (hg : Gl X x) (hm : X.mg x = some (.ref C)) (hx : Passes CX X E) (he : PE X e te) (hd : (x == ("__debug__" : Str)) = false := by decide)
    (hst : starEach [.Starred e sp_] X.env = [(true, eval e X.env)] := by rfl) : PE X (.Call (.Name x p1) [.Starred e sp_] [] pos) (tStarNew X.K C sp E te) := by
  refine ⟨fun pins s σ H Q I h => ?_⟩
  refine wpAny_Call_Name_kw (ld_glob I hg hm ?_ hd)
  refine callWith_S (h₀ := X.base) I.ok.mod.kin M.kp (thn (he.run pins s σ H _ I h) fun v s1 ⟨y, H1, I1, ry, a, xs, ey, hxs, q⟩ => ?_) hst
  subst ey
  obtain rfl : v = Value.ref a := ry
  exact StX.star_any I1 hxs fun us s2 I2 rv => ⟨I2.kIn, StX.run_makeR M F hr hx I2 rv q⟩
/-- c(*xs), the local c holds the class -/
theorem pe_newL {i : Nat} (M : Mk X.K C f) (F : FnR X.prog X.w X.K X.mg X.base CX k f sp) (hr : Room (k + 1) X.A) (hN : X.N[i]? = some x) (hv : Vis X.env.scope x) (hx : Passes CX X E) (he : PE X e te)
    (hd : (x == ("__debug__" : Str)) = false := by decide) (hcd : (x == ("__classdict__" : Str)) = false := by decide)
    (hst : starEach [.Starred e sp_] X.env = [(true, eval e X.env)] := by rfl) : PE X (.Call (.Name x p1) [.Starred e sp_] [] pos) (fun σ H Q => σ[i]? = some (some (.ref C)) ∧ tStarNew X.K C sp E te σ H Q) := by
  refine ⟨fun pins s σ H Q I h => ?_⟩
  obtain ⟨hs, h⟩ := h
  refine wpAny_Call_Name_kw (thn ((pe_var (pos := p1) hN hv hd hcd).run pins s σ H (fun v H1 => v = .ref C ∧ H1 = H) I ⟨.ref C, hs, rfl, rfl⟩) fun u s0 ⟨v, H0, I0, r0, q0⟩ => ?_)
  obtain ⟨rfl, rfl⟩ := q0
  obtain rfl : u = Value.ref C := r0
  refine callWith_S (h₀ := X.base) I.ok.mod.kin M.kp (thn (he.run pins s0 σ _ _ I0 h) fun v s1 ⟨y, H1, I1, ry, a, xs, ey, hxs, q⟩ => ?_) hst
  subst ey
  obtain rfl : v = Value.ref a := ry
  exact StX.star_any I1 hxs fun us s2 I2 rv => ⟨I2.kIn, StX.run_makeR M F hr hx I2 rv q⟩
/-- C() -/
theorem pe_new0 (M : Mk X.K C f) (F : FnR X.prog X.w X.K X.mg X.base CX k f sp) (hr : Room (k + 1) X.A) (hg : Gl X x) (hm : X.mg x = some (.ref C)) (hx : Passes CX X E) (hd : (x == ("__debug__" : Str)) = false := by decide) :
    PE X (.Call (.Name x p1) [] [] pos) (fun _ H Q => wNew C sp E [] H Q) := by
  refine ⟨fun pins s σ H Q I h => ?_⟩
  refine wpAny_Call_Name_kw (ld_glob I hg hm ?_ hd)
  exact callWith_K0 (first := []) I.kIn M.kp (StX.run_makeR (us := []) (vs := []) M F hr hx I .nil h)
end
/-- C.m is a static method: its record at p, its def at g -/
structure SMet (K : Frag) (C : Addr) (mc : Value) (m : Str) (p g : Addr) : Prop where
  at_ : findCls K (.ref C) mc m = some (.get (.builtin "staticmethod.__get__") (.ref p) .none (.ref C))
  rc : ∃ rest, recIn K p "staticmethod" = some (.ref g :: rest)
  kp : keepIn K (.ref g) = true
theorem smet_of {K : Frag} {m : Str} {C : Addr} (h : He5.wrapB K C "staticmethod" "staticmethod.__get__" m = true) (hk : keepIn K (.ref (He5.wf K C "staticmethod" m)) = true) : SMet K C (.type "type") m (He.ma K C m) (He5.wf K C "staticmethod" m) := by
  obtain ⟨h1, h2⟩ := He5.wrapB_ok h
  exact ⟨h1, h2, hk⟩
section
variable {pins : List (Addr × Obj)} {σ : L2.St} {H : Hp} {s : Shared} {m : Str} {A : Around} {E' : Value → Shared → Prop}
theorem getsm_ok {pl : Sem Bool} {Q : Value × List Value → Shared → Prop} (I : Inv X pins σ H s) (r : ClX.CRead X.K C mc) (c : SMet X.K C mc m p g) (h : ∀ s', Inv X pins σ H s' → Q (.ref g, []) s') : wpAny (model X.prog X.w) A (getMethod (.ref C) m pl) Q E' s := by
  obtain ⟨rest, hp⟩ := c.rc
  refine method_cls I.kIn r.ga (cls_bind I.kIn r.rd c.at_ ?_)
  exact wpAny_call (sm_get (s := { s with toks := s.toks + 1 }) I.kIn hp (handed_on rfl (h _ (I.tok _))))
end
section
variable {o e : Expr} {es : List Expr} {to : TE} {t : TA} {m : Str} {apos pos : Pos} {pl : Sem Bool}
def tSMeth (C : Addr) (sp : Sp) (E : XK) (ta : TE) (t : TA) : TE := fun σ H Q => ta σ H fun x H1 => x = .ref C ∧ t σ H1 fun vs H2 => sp vs H2 Q E
/-- C.m(e), m a static method -/
theorem pe_smeth (he : PE X o to) (r : ClX.CRead X.K C mc) (c : SMet X.K C mc m p g) (F : FnR X.prog X.w X.K X.mg X.base CX k g sp) (hr : Room k X.A) (hx : Passes CX X E) (ha : PA X (e :: es) t)
    (hst : starEach (e :: es) X.env = (false, eval e X.env) :: starEach es X.env := by rfl) (hpl : (backTo pos (starEach es X.env)).any (·.1) = false := by rfl)
    (ht : eval (.Call (.Attribute o m apos) (e :: es) [] pos) X.env = (do
      let u ← eval o X.env
      standAt apos.atName
      let (f, first) ← holding [u] (getMethod u m pl)
      callWith pos f first (backTo pos (starEach (e :: es) X.env)) (backToKw pos (keywordEach [] X.env))) := by rfl) :
    PE X (.Call (.Attribute o m apos) (e :: es) [] pos) (tSMeth C sp E to t) := by
  refine ⟨fun pins s σ H Q I h => ?_⟩
  refine methodCall_KW (pl := pl) (thn (he.run pins s σ H _ I h) fun u s1 ⟨x, H1, I1, rx, ex, q⟩ => ?_) ht
  subst ex
  obtain rfl : u = Value.ref C := rx
  refine getsm_ok I1 r c fun s2 I2 => ?_
  refine callWith_K (h₀ := X.base) I2.ok.mod.kin c.kp (thn (ha.run pos pins s2 σ H1 _ I2 q) fun us s3 ⟨vs, H2, I3, rv, q2⟩ => ⟨I3.kIn, ?_⟩) hst hpl
  exact wpAny_call (run_fnR F hr hx I3 rv q2)
end
end
end Oo
set_option Elab.async false
set_option linter.all false
set_option maxRecDepth 100000
set_option maxHeartbeats 1000000
/-! Lots as they are made; Lot.of. -/
namespace K6
open PySem PySem.Spec PyProof.Rows L2 RV EV He EF EI
/-- a lot at p: its names at tp, ascending fixes, at most eight -/
structure LO (K : PySem.W.Frag) (H : Hp) (p dx tp : Addr) (ns : List Str) : Prop where
  ob : H p = some (.ins (gO K) dx [("fixes", .ref tp)])
  ps : H tp = some (.tup (ns.map V.str))
  asc : Asc ns
  fx : ∀ x ∈ ns, isFixB x = true
  le : ns.length ≤ 8
theorem LO.same {K : PySem.W.Frag} {H H' : Hp} {p dx tp : Addr} {ns : List Str} (o : LO K H p dx tp ns) (s : Same H H') : LO K H' p dx tp ns := ⟨s _ _ o.ob, s _ _ o.ps, o.asc, o.fx, o.le⟩
abbrev IsLot (K : PySem.W.Frag) (H : Hp) (p : Addr) (ns : List Str) : Prop := ∃ dx tp, LO K H p dx tp ns
/-- what is got of a lot of the names ss: a new one, or TooMany -/
def LotR (K : PySem.W.Frag) (E : XK) (Q : VK) (ss : List Str) (H' : Hp) : Prop :=
  ((lined ss).length ≤ 8 → ∀ H2 p dx tp, Same H' H2 → LO K H2 p dx tp (lined ss) → Q (.ref p) H2) ∧
  (8 < (lined ss).length → ∀ H2, Same H' H2 → Bad2 (ga K "TooMany") "what" "most" H2 E (.str "fixes") (.int 8))
/-- Lot(*xs) -/
def MkLot (K : PySem.W.Frag) (xs : List V) (H : Hp) (Q : VK) (E : XK) : Prop := xs.length ≤ 1000 ∧ Chk K xs H E (LotR K E Q)
theorem Chk.mono {K : PySem.W.Frag} {xs : List V} {H H1 : Hp} {E : XK} {R R' : List Str → Hp → Prop} (c : Chk K xs H E R) (s : Same H H1) (h : ∀ ss H', (∀ x ∈ ss, isFixB x = true) → Same H1 H' → R ss H' → R' ss H') : Chk K xs H1 E R' := by
  rcases c with ⟨ss, e, f, k⟩ | ⟨ss, v, r, e, f, k⟩
  · exact .inl ⟨ss, e, f, fun H' s' => h ss H' f s' (k H' (s.trans s'))⟩
  · exact .inr ⟨ss, v, r, e, f, fun H' s' => k H' (s.trans s')⟩
theorem MkLot.same {K : PySem.W.Frag} {xs : List V} {H H1 : Hp} {Q : VK} {E : XK} (m : MkLot K xs H Q E) (s : Same H H1) : MkLot K xs H1 Q E := ⟨m.1, m.2.mono s fun _ _ _ _ r => r⟩
theorem MkLot.good {K : PySem.W.Frag} {ss : List Str} {H : Hp} {Q : VK} {E : XK} (hz : ss.length ≤ 1000) (hf : ∀ x ∈ ss, isFixB x = true) (k : ∀ H', Same H H' → LotR K E Q ss H') : MkLot K (ss.map V.str) H Q E :=
  ⟨by rw [List.length_map]; exact hz, .inl ⟨ss, rfl, hf, k⟩⟩
/-- from what a caller shows to what __init__ asks -/
theorem new_of {K : PySem.W.Frag} {xs : List V} {H : Hp} {Q : VK} {E : XK} (m : MkLot K xs H Q E) : Oo.wNew (gO K) (spStar (spLi K)) E xs H Q := by
  intro x dx hx hdx ne
  refine ⟨[.ref x], xs, rfl, rfl, by have := m.1; rw [sizeLine_eq]; omega, fun T nT => ?_⟩
  have s1 : Same H (upd (upd H dx (.own x)) x (.ins (gO K) dx [])) := fun c u e => by
    rw [upd_ne (ne_of_none e hx), upd_ne (ne_of_none e hdx)]
    exact e
  have hxT : x ≠ T := ne_of_none upd_same nT
  have s2 : Same H (upd (upd (upd H dx (.own x)) x (.ins (gO K) dx [])) T (.tup xs)) := s1.trans (same_new nT)
  refine ⟨x, dx, T, xs, rfl, by rw [upd_ne hxT]; exact upd_same, upd_same, m.1, ?_⟩
  rcases m.2 with ⟨ss, e, f, k⟩ | ⟨ss, v, r, e, f, k⟩
  · refine .inl ⟨ss, e, f, fun H' s' => ⟨fun hl H2 t s3 e1 e2 => ⟨rfl, ?_⟩, fun hl H2 s3 => ?_⟩⟩
    · have sm : Same H H2 := fun c u q => s3 c u (ne_of_none q hx) (s' c u (s2 c u q))
      exact (k H2 sm).1 hl H2 x dx t (fun _ _ q => q) ⟨e1, e2, asc_lined _, fun a ha => f a (mem_lined.mp ha), hl⟩
    · exact (k H2 ((s2.trans s').trans s3)).2 hl H2 fun _ _ q => q
  · exact .inr ⟨ss, v, r, e, f, fun H' s' => k H' (s2.trans s')⟩
section
variable {P : Program} {w : World} {K : PySem.W.Frag} {mg : Str → Option Value} {base : Heap}
theorem mk_lot (T : KF P w K mg base) : Mk K (gO K) (lAd K "__init__") := T.mko
/-- the kind of a lot -/
theorem ty_lot (T : KF P w K mg base) {H : Hp} {a dx : Addr} {fs : List (Str × V)} (e : H a = some (.ins (gO K) dx fs)) : TyX K H (.ref a) (.ref (gO K)) := by
  obtain ⟨o1, o2⟩ := ba T.ob
  obtain ⟨h1, h⟩ := ba T.l1
  obtain ⟨h2, _⟩ := ba h
  exact .base (.ins e T.clo (eqO_ok h1) (eqO_ok o1) (of_decide_eq_true o2) (of_decide_eq_true h2))
theorem kit_lot (T : KF P w K mg base) : PySem.W.kitOne K (.ref (gO K)) (.ref (gO K)) = some true := by
  obtain ⟨_, h⟩ := ba T.l5
  obtain ⟨h, _⟩ := ba h
  exact of_decide_eq_true h
theorem kit_str (T : KF P w K mg base) : PySem.W.kitOne K (.ref (gO K)) (.type "str") = some false := (of_decide_eq_true (ba T.l5).1)
theorem kit_seq (T : KF P w K mg base) : PySem.W.kitAny K (.ref (gO K)) [.type "list", .type "tuple"] = some false := by
  obtain ⟨_, h⟩ := ba T.l5
  obtain ⟨_, h⟩ := ba h
  exact of_decide_eq_true (ba h).1
theorem kit_bes (T : KF P w K mg base) {t : String} (ht : t ∈ besT) : PySem.W.kitOne K (.type t) (.ref (gO K)) = some false := by
  obtain ⟨_, h⟩ := ba T.l5
  obtain ⟨_, h⟩ := ba h
  exact of_decide_eq_true (List.all_eq_true.mp (ba h).2 t ht)
abbrev aOf (K : PySem.W.Frag) : Addr := He5.wf K (gO K) "staticmethod" "of"
abbrev aRead (K : PySem.W.Frag) : Addr := He5.wf K (gO K) "classmethod" "read"
theorem smet (T : KF P w K mg base) : Oo.SMet K (gO K) (.type "type") "of" (ma K (gO K) "of") (aOf K) := by
  obtain ⟨h, _⟩ := ba T.l3
  obtain ⟨fd, F⟩ := T.fo
  exact Oo.smet_of h F.kp
theorem cmet (T : KF P w K mg base) : ClX.CMet K (gO K) (.type "type") "read" (ma K (gO K) "read") (aRead K) := by
  obtain ⟨_, h⟩ := ba T.l3
  obtain ⟨h1, h⟩ := ba h
  obtain ⟨_, h2⟩ := ba h
  exact He5.cmet_of h1 h2
/-! Lot.of -/
/-- a list or a tuple of xs -/
def SeqV (K : PySem.W.Frag) (H : Hp) (v : V) (xs : List V) : Prop := ∃ a, v = .ref a ∧ (H a = some (.lst xs) ∨ H a = some (.tup xs))
def spOf (K : PySem.W.Frag) : Sp := fun vs H Q E => ∃ v, vs = [v] ∧ ((∃ xs, SeqV K H v xs ∧ ∀ H', Same H H' → MkLot K xs H' Q E) ∨
  (∀ H', Same H H' → (∃ t, TyX K H' v t ∧ PySem.W.kitAny K t [.type "list", .type "tuple"] = some false) ∧ Bad1 (ga K "BadLot") "part" H' E (.str "fixes")))
theorem scOf : FnScope ["fixes"] ["fixes"] (defScope (lSt 2)) := ⟨rfl, rfl, rfl, by decide +kernel, rfl, by decide +kernel, by decide +kernel⟩
theorem ok_of (T : KF P w K mg base) {fd : FuncData} (F : FunD K "of" "Lot.of" (defArgs (lSt 2)) (defBody (lSt 2)) (defScope (lSt 2)) [] [] (aOf K) fd) : FnOk P w K mg base (L2.CX P w) 6 (aOf K) fd ["fixes"] (spOf K) := by
  refine F.ok scOf (fun vs H Q E h => ?_) (fun cdv A outer s H vs Q E hr h => ?_)
  · obtain ⟨v, rfl, _⟩ := h
    rfl
  · obtain ⟨v, rfl, k⟩ := h
    refine ⟨_, pss_cons (ps_if (pt_not (pt_val (pe_callB call_isiT (by rfl) (T.fr "isinstance" (by decide)) PyProof.Rows.boot_isinstance (pa_cons (pv 0) (pa_cons (pe_tup (pa_cons (pe_bltn (v := .ty "list") (by rfl) (T.fr "list" (by decide)) boot_T rfl) (pa_cons (pe_bltn (v := .ty "tuple") (by rfl) (T.fr "tuple" (by decide)) boot_T rfl) pa_nil))) pa_nil)))))
        (pss_one (ps_raise1 T.bl (hr.mono (by decide)) rfl (takes_of rfl rfl rfl rfl) (by rfl) pe_str)) pss_nil)
      (pss_one (ps_ret (Oo.pe_newS (E := E) T.mko (ok_li T) hr (by rfl) T.go (passes_call (takes_of rfl rfl rfl rfl) fun _ _ _ _ h => h) (pv 0)))), ?_⟩
    have two : ∀ {σ : L2.St} {H1 : Hp} {D : Ends} {t : Value} {b : Bool}, σ[0]? = some (some v) → (∀ H', Same H1 H' → TyX K H' v t) → PySem.W.kitAny K t [.type "list", .type "tuple"] = some b → (∀ H', Same H1 H' → if (!b) = true then tRaise1 (ga K "BadLot") "part" (tC (V.str "fixes")) (fun cls d x H => E cls d H) D σ H' else tNext D σ H') →
        tIfS (tNot (tB (tCB (rIsiT K) (tCons (tVar 0) (tCons (tTup (tCons (tC (V.ty "list")) (tCons (tC (V.ty "tuple")) tNil))) tNil))))) (tRaise1 (ga K "BadLot") "part" (tC (V.str "fixes")) fun cls d x H => E cls d H) tNext D σ H1 := by
      intro σ H1 D t b hs ty kt q
      exact ⟨v, hs, by show 2 ≤ sizeLine; rw [sizeLine_eq]; decide, fun tp ntp => ⟨v, tp, _, t, _, b, rfl, upd_same, .cons (.ty _) (.cons (.ty _) .nil), ty _ (same_new ntp), kt, b, rfl, q _ (same_new ntp)⟩⟩
    rcases k with ⟨xs, ⟨a, rfl, hs⟩, k⟩ | k
    · have kl : PySem.W.kitAny K (.type "list") [.type "list", .type "tuple"] = some true := kitAny_cons (b := true) (kit_ty (by decide +kernel)) (fun z => nomatch z) fun _ => rfl
      have kt : PySem.W.kitAny K (.type "tuple") [.type "list", .type "tuple"] = some true := kitAny_cons (b := false) (kit_ty (by decide +kernel)) (fun _ => kitAny_cons (b := true) (kit_ty (by decide +kernel)) (fun z => nomatch z) fun _ => rfl) (fun z => nomatch z)
      rcases hs with hs | hs
      · refine two rfl (fun H' s' => .base (.lst (s' _ _ hs))) kl fun H' s' => if_negB rfl ?_
        exact ⟨_, rfl, a, xs, rfl, .inr (SqL.of (s' _ _ hs)), new_of (k H' s')⟩
      · refine two rfl (fun H' s' => .base (.tup (s' _ _ hs))) kt fun H' s' => if_negB rfl ?_
        exact ⟨_, rfl, a, xs, rfl, .inl (SqT.of (s' _ _ hs)), new_of (k H' s')⟩
    · refine ⟨v, rfl, by show 2 ≤ sizeLine; rw [sizeLine_eq]; decide, fun tp ntp => ?_⟩
      obtain ⟨⟨t, ty, kt⟩, bd⟩ := k _ (same_new (o := .tup [.ty "list", .ty "tuple"]) ntp)
      exact ⟨v, tp, _, t, _, false, rfl, upd_same, .cons (.ty _) (.cons (.ty _) .nil), ty, kt, false, rfl, if_posB rfl (mkb1 bd)⟩
end
end K6
set_option Elab.async false
set_option linter.all false
set_option maxRecDepth 100000
set_option maxHeartbeats 1000000
/-! len(o), bool(o), for x in o: o an instance of an own class that says so itself. -/
namespace Ow
open PySem PySem.Spec PyProof.Rows L2
section
variable {X : Cx} {CX : CXT} {k : Nat} {C f : Addr} {fd : FuncData} {ps : List Str} {sp : Sp} {E : XK}
/-- len(o) -/
def rLenO (C : Addr) (sp : Sp) (E : XK) : List V → Hp → VK → Prop := fun xs H Q => ∃ a dx fs, xs = [.ref a] ∧ H a = some (.ins C dx fs) ∧ sp [.ref a] H (fun v H' => ∃ n : Int, v = .int n ∧ 0 ≤ n ∧ n < 2 ^ 63 ∧ Q (.int n) H') E
theorem call_lenO (hs : PySem.W.findIn X.K (.ref C) "__len__" = some (some (.ref f))) (hf : PySem.W.isFn X.K (.ref f) = true) (F : FnOk X.prog X.w X.K X.mg X.base CX k f fd ps sp) (hr : Room (k + 1) X.A) (hb : Binds X.K fd ps []) (hx : Passes CX X E) :
    CallR X (.builtin "len") (rLenO C sp E) := by
  intro pins s σ H xs us Q I r h
  obtain ⟨a, dx, fs, rfl, ea, q⟩ := h
  obtain ⟨u, rfl, ru⟩ := vals1 r
  obtain rfl : u = Value.ref a := ru
  obtain ⟨mA, O, _⟩ := ins_get I.hok ea
  obtain ⟨od, J, _⟩ := O.look
  obtain ⟨m, hF⟩ := I.fr
  have hl := F.len _ _ _ _ q
  refine PySem.W.len_K hF I.ok.mod.kin J hs hf (wpAny_call (codeAny_mono (F.run X.A.in1 X.stack s H ⟨[.ref a], []⟩ [.ref a] [.ref a] _ E hr.in1 I.env0.in1 (by
    have := hb s [.ref a] I.kIn (by simpa using hl)
    simpa using this) (.cons rfl .nil) q) fun rs s' hq => ?_))
  cases rs with
  | error e => exact hx pins σ H s e s' I hq
  | ok fl =>
    cases fl with
    | ret u =>
      obtain ⟨v, H', I', rv, n, rfl, h0, h1, q'⟩ := I.after hq
      obtain ⟨t, rfl⟩ := rv
      exact ⟨⟨h0, h1⟩, .int n, H', I'.tok _, ⟨_, rfl⟩, q'⟩
    | next => exact False.elim hq
    | brk => exact False.elim hq
    | cont => exact False.elim hq
/-- truth of o -/
def rBoolO (C : Addr) (sp : Sp) (E : XK) : List V → Hp → VK → Prop := fun xs H Q => ∃ a dx fs, xs = [.ref a] ∧ H a = some (.ins C dx fs) ∧ sp [.ref a] H (fun v H' => ∃ b : Bool, v = .bl b ∧ Q (.bl b) H') E
theorem truthO {A : Around} (hs : PySem.W.findIn X.K (.ref C) "__bool__" = some (some (.ref f))) (hf : PySem.W.isFn X.K (.ref f) = true) (F : FnOk X.prog X.w X.K X.mg X.base CX k f fd ps sp) (hb : Binds X.K fd ps []) (hx : Passes CX X E)
    {pins : List (Addr × Obj)} {σ : L2.St} {H : Hp} {s : Shared} {a dx : Addr} {fs : List (Str × V)} {Q : Bool → Hp → Prop} (I : Inv X pins σ H s) (hr : Room k A) (e0 : Env0 X.prog X.w X.K X.mg X.base A X.stack s H) (ea : H a = some (.ins C dx fs))
    (q : sp [.ref a] H (fun v H' => ∃ b : Bool, v = .bl b ∧ Q b H') E) : wpAny (model X.prog X.w) A (truthy (.ref a)) (fun b s' => ∃ H', Inv X pins σ H' s' ∧ Q b H') X.xe s := by
  obtain ⟨mA, O, _⟩ := ins_get I.hok ea
  obtain ⟨od, J, _⟩ := O.look
  obtain ⟨m, hF⟩ := I.fr
  have hl := F.len _ _ _ _ q
  refine PySem.W.truthy_K hF I.ok.mod.kin J hs hf (wpAny_call (codeAny_mono (F.run A X.stack s H ⟨[.ref a], []⟩ [.ref a] [.ref a] _ E hr e0 (by
    have := hb s [.ref a] I.kIn (by simpa using hl)
    simpa using this) (.cons rfl .nil) q) fun rs s' hq => ?_))
  cases rs with
  | error e => exact hx pins σ H s e s' I hq
  | ok fl =>
    cases fl with
    | ret u =>
      obtain ⟨v, H', I', rv, b, rfl, q'⟩ := I.after hq
      obtain rfl : u = Value.bool b := rv
      exact ⟨H', I', q'⟩
    | next => exact False.elim hq
    | brk => exact False.elim hq
    | cont => exact False.elim hq
end
section
variable {prog : Program} {w : World} {a : Addr}
open PySem.Sem (wp)
theorem boolnew : MeetsIn prog w (Builtin.«bool.__new__» ⟨[.type "bool", .ref a], []⟩) (fun A R s => wpAny (model prog w) A.in1 (truthy (.ref a)) (fun b s' => R (.ok (.ret (.bool b))) s') (fun e s' => R (.error e) s') s) :=
  .of_wp fun A R s h => by
    obtain ⟨hp, g, d, tk, os⟩ := s
    have f1 := F.conv_sub_bool
    repeat (any_goals (first | assumption | (with_reducible refine wpAny_mono h (fun b s' hb => ?_) (fun e s' he => he)) | wp_step))
    all_goals first | exact ⟨_, rfl, hb⟩ | exact hb
end
section
variable {X : Cx} {CX : CXT} {k : Nat} {C f : Addr} {fd : FuncData} {ps : List Str} {sp : Sp} {E : XK}
theorem _root_.L2.Env0.in2 {P : Program} {w : World} {K : PySem.W.Frag} {mg : Str → Option Value} {base : Heap} {A : Around} {outer : List Env} {s : Shared} {H : Hp} (e : Env0 P w K mg base A outer s H) : Env0 P w K mg base A.in1.in1 outer s H := e.in1.in1
/-- bool(o) -/
theorem call_boolO (hs : PySem.W.findIn X.K (.ref C) "__bool__" = some (some (.ref f))) (hf : PySem.W.isFn X.K (.ref f) = true) (G : FnOk X.prog X.w X.K X.mg X.base CX k f fd ps sp) (hr : Room (k + 2) X.A) (hb : Binds X.K fd ps []) (hx : Passes CX X E) :
    CallR X (.type "bool") (rBoolO C sp E) := by
  intro pins s σ H xs us Q I r h
  obtain ⟨a, dx, fs, rfl, ea, q⟩ := h
  obtain ⟨u, rfl, ru⟩ := vals1 r
  obtain rfl : u = Value.ref a := ru
  refine callType_newIn PySem.F.called_bool PySem.F.newNe_bool (PySem.F.typeCall_bool_1 _) (PySem.F.newCall_bool_1 _) (fun obj => PySem.F.args_object_init_2 obj _) PySem.F.entry_bool_new boolnew ?_
  refine wpAny_mono (truthO (Q := fun b H' => Q (.bl b) H') hs hf G hb hx I hr.in1.in1 I.env0.in2 ea q) (fun b s' ⟨H', I', q'⟩ => ?_) fun e s' he => he
  exact ⟨PySem.typeIs_bool _ _, .bl b, H', I', rfl, q'⟩
end
end Ow
set_option Elab.async false
set_option linter.all false
set_option maxRecDepth 100000
set_option maxHeartbeats 1000000
namespace Ow
open PySem PySem.Spec PyProof.Rows L2
/-- an iterator at it over the tuple at t, at its start -/
def TuO (t it : Addr) : HO := .ext fun h => h.IsTupleIter it t 0
theorem tuO_ok {P : Program} {w : World} {H : Hp} {h : Heap} {t it : Addr} (e : h.IsTupleIter it t 0) : ObjOk P w H h it (TuO t it) := by
  obtain ⟨o, e1, e2, e3⟩ := e
  exact ⟨⟨o, e1, e2, e3⟩, ⟨o, e1⟩, fun _ _ ⟨u, b1, b2, b3⟩ k => ⟨u, k _ b1, b2, b3⟩⟩
section
variable {X : Cx} {pins : List (Addr × Obj)} {σ : L2.St} {H : Hp} {s : Shared}
/-- iter(t), t a tuple; the iterator is newer than the def's entry -/
def rIterT (X : Cx) : List V → Hp → VK → Prop := fun xs H Q => ∃ (t : Addr) (zs : List V), xs = [.ref t] ∧ SqT X.K H t zs ∧ ∀ it, H it = none → X.s_0.heap.objs.size ≤ it → Q (.ref it) (upd H it (TuO t it))
theorem call_iterT : CallR X (.builtin "iter") (rIterT X) := by
  intro pins s σ H xs us Q I r h
  obtain ⟨t, zs, rfl, hq, q⟩ := h
  obtain rfl := Vals.ref1 r
  obtain ⟨its, rv, pl, hz⟩ := I.tuple hq
  refine Calls.call_function_entry (by decide +kernel) (by decide +kernel) PySem.W.kdk_entry_iter (PySem.W.kdk_args_iter _) ?_
  unfold Builtin.«iter»
  refine wpAny_bind (m := someArgs "iter" 1 2 _) (wpAny_of_eq (a := [Value.ref t]) (by first | rfl | kernel_rfl!) ?_)
  refine wpAny_bind (m := pyIter (.ref t)) (wpAny_pyIter_tuple (show s.heap.IsTuple t its.toArray from pl) ?_)
  exact wpAny_pure ⟨_, rfl, .ref s.heap.objs.size, _, I.laid (t' := s.toks) (fun b u e => Heap.get?_push_of_some _ e) (Nat.le_refl _) (tuO_ok ⟨_, Heap.get?_push_size _ rfl, rfl, rfl⟩), rfl, q _ (I.hok.fresh (Nat.le_refl _)) I.sz⟩
/-- a tracked thing that is new is tracked no more -/
theorem forget {a : Addr} {φ : Heap → Prop} (I : Inv X pins σ H s) (ha : H a = some (.ext φ)) (n0 : X.s_0.heap.get? a = none) : Inv X pins σ (L2.delH H a) s := by
  have ne : ∀ {b : Addr} {u : HO}, H b = some u → (∀ ψ, u ≠ .ext ψ) → b ≠ a := fun {b u} e n q => by
    rw [q, ha] at e
    exact n φ (Option.some.inj e).symm
  have nn : ∀ {b : Addr}, H b = none → b ≠ a := fun {b} e q => by
    rw [q, ha] at e
    cases e
  have old : ∀ {b : Addr} {o : Obj}, X.s_0.heap.get? b = some o → b ≠ a := fun {b o} e q => by
    rw [q, n0] at e
    cases e
  refine ⟨I.ok, I.os, I.bare, ⟨I.base.keep, I.base.slot, fun b o e n hx => ?_, I.base.there, fun b xs e => ?_, fun b o u e => ?_, fun b ps e => ?_⟩, I.loc, I.cell, ?_, fun x c e => ?_, fun p hp => ?_, fun b u e => ?_, I.len⟩
  · rw [delH_ne (old e)]
    exact I.base.free b o e n hx
  · have q := I.base.tups b xs e
    rw [delH_ne (ne q (fun _ z => nomatch z))]
    exact q
  · have q := I.base.frzs b o u e
    rw [delH_ne (ne q (fun _ z => nomatch z))]
    exact q
  · obtain ⟨more, q⟩ := I.base.tbls b ps e
    exact ⟨more, by rw [delH_ne (ne q (fun _ z => nomatch z))]; exact q⟩
  · rw [delH_ne (nn I.free)]
    exact I.free
  · rw [delH_ne (nn (I.freeC x c e))]
    exact I.freeC x c e
  · obtain ⟨p1, p2, p3⟩ := I.pin p hp
    exact ⟨p1, by rw [delH_ne (nn p2)]; exact p2, p3⟩
  · have hb : b ≠ a := fun q => by
      rw [q, delH_same] at e
      cases e
    rw [delH_ne hb] at e
    refine (I.hok b u e).stay (fun _ _ _ r => r) (fun c r => ?_) fun c xs r => ?_
    · rw [delH_ne (ne r (fun _ z => nomatch z))]
      exact r
    · rw [delH_ne (ne r (fun _ z => nomatch z))]
      exact r
end
/-- what is asked of the own __iter__'s def: at the object at a, with the heap H, it gives a new iterator over the tuple at tp -/
def Gives1 (X : Cx) (k : Nat) (f : Addr) (a tp : Addr) (H : Hp) : Prop := ∀ (s : Shared), Env0 X.prog X.w X.K X.mg X.base X.A X.stack s H → Room k X.A → X.K.In s.heap →
  codeAny (model X.prog X.w) X.A (.call (.ref f) ⟨[.ref a], []⟩) (CR CX0 X.stack X.prog X.w H s (fun v H' => ∃ it, v = .ref it ∧ H it = none ∧ s.heap.objs.size ≤ it ∧ H' = upd H it (TuO tp it)) E0) s
def iOwn (X : Cx) (C : Addr) (k : Nat) (f : Addr) (te : TE) : TI := fun σ H R => te σ H fun x H1 => ∃ a dx fs tp ws, x = .ref a ∧ H1 a = some (.ins C dx fs) ∧ SqT X.K H1 tp ws ∧ Gives1 X k f a tp H1 ∧ R (Itt X.K tp) H1
theorem pi_own {X : Cx} {C f : Addr} {k : Nat} {tg e : Expr} {te : TE} (he : PE X e te) (hs : PySem.W.findIn X.K (.ref C) "__iter__" = some (some (.ref f))) (hf : PySem.W.isFn X.K (.ref f) = true) (hr : Room k X.A) : PI X tg e (iOwn X C k f te) := by
  refine ⟨fun pins s σ H R I h => ?_⟩
  refine thn (he.run pins s σ H _ I h) fun v s1 ⟨x, H1, I1, r1, a, dx, fs, tp, ws, ex, ea, ht, hG, q⟩ => ?_
  subst ex
  obtain rfl : v = Value.ref a := r1
  obtain ⟨mA, O, _⟩ := ins_get I1.hok ea
  obtain ⟨od, J, _⟩ := O.look
  obtain ⟨m, hF⟩ := I1.fr
  refine PySem.W.owit_iter hF I1.ok.mod.kin J hs hf (wpAny_call (codeAny_mono (hG s1 I1.env0 hr I1.kIn) fun rs s' hq => ?_))
  cases rs with
  | error e => exact (show False from hq).elim
  | ok fl =>
    cases fl with
    | ret u =>
      obtain ⟨v, H', I', rv, it, rfl, hn, hz, rfl⟩ := I1.after hq
      obtain rfl : u = Value.ref it := rv
      have ho : ObjOk X.prog X.w (upd H1 it (TuO tp it)) s'.heap it (TuO tp it) := I'.hok it _ upd_same
      have st : s'.heap.IsTupleIter it tp 0 := ho.1
      have n0 : X.s_0.heap.get? it = none := by
        cases e : X.s_0.heap.get? it with
        | none => rfl
        | some o => exact absurd (Heap.lt_size e) (Nat.not_lt.mpr (Nat.le_trans I1.sz hz))
      have J' := forget I' upd_same n0
      rw [delH_new hn] at J'
      unfold PySem.W.OwitIt
      have hT : s'.TypeIs (.ref it) "tuple_iterator" := let ⟨o, e1, e2, _⟩ := st; ⟨o, e1, e2⟩
      refine wpAny_specialOf hT PySem.F.slot_tuple_iterator_next.lookup ?_
      refine ⟨it, [it], _, _, H1, rfl, J', turn_tuple tp _, st, fun b hb => ?_, q⟩
      have e : b = it := by simpa using hb
      subst e
      refine ⟨hn, Nat.ne_of_gt (Nat.lt_of_lt_of_le I1.lt hz), I1.nofs hz, .inr (Nat.le_trans I1.sz hz), fun x c e z => ?_, fun p hp z => ?_⟩
      · obtain ⟨v, q⟩ := I1.cell x c e
        exact absurd (Nat.lt_of_lt_of_le q.lt (by rw [z]; exact hz)) (Nat.lt_irrefl _)
      · exact absurd (Nat.lt_of_lt_of_le (Heap.lt_size (I1.pin p hp).1) (by rw [z]; exact hz)) (Nat.lt_irrefl _)
    | next => exact False.elim hq
    | brk => exact False.elim hq
    | cont => exact False.elim hq
end Ow
set_option Elab.async false
set_option linter.all false
set_option maxRecDepth 100000
set_option maxHeartbeats 1000000
/-! Lists and tuples of texts, compared. -/
namespace K6
open PySem PySem.Spec PyProof.Rows L2
theorem fix_ok {x : Str} (h : isFixB x = true) : PyData.strOk x = true := by
  unfold isFixB at h
  obtain ⟨_, h⟩ := Bool.and_eq_true_iff.mp h
  obtain ⟨_, h⟩ := Bool.and_eq_true_iff.mp h
  unfold PyData.strOk
  rw [← Array.all_toList, List.all_eq_true]
  intro c hc
  have := List.all_eq_true.mp h c hc
  unfold letB at this
  obtain ⟨_, h2⟩ := Bool.and_eq_true_iff.mp this
  have := of_decide_eq_true h2
  exact decide_eq_true (by omega)
theorem canLay_s : ∀ ss : List Str, (∀ x ∈ ss, PyData.strOk x = true) → PyData.canLayAll0 (ss.map PyData.str) = true
  | [], _ => by simp only [List.map_nil, PyData.canLayAll0]
  | x :: r, h => by
    simp only [List.map_cons, PyData.canLayAll0, PyData.canLay0, Bool.and_eq_true]
    exact ⟨h x (List.mem_cons_self ..), canLay_s r fun y hy => h y (List.mem_cons_of_mem _ hy)⟩
theorem depth_s : ∀ ss : List Str, PyData.depthAll (ss.map PyData.str) = 0
  | [] => by simp only [List.map_nil, PyData.depthAll]
  | x :: r => by simp [PyData.depthAll, PyData.depth, depth_s r]
theorem shapedL {ss : List Str} (h : ∀ x ∈ ss, PyData.strOk x = true) : SeqAt.shaped (.list (ss.map PyData.str)) = true := by
  simp [SeqAt.shaped, PyData.canLay0, PyData.depth, canLay_s ss h, depth_s]
theorem shapedT {ss : List Str} (h : ∀ x ∈ ss, PyData.strOk x = true) : SeqAt.shaped (.tuple (ss.map PyData.str)) = true := by
  simp [SeqAt.shaped, PyData.canLay0, PyData.depth, canLay_s ss h, depth_s]
theorem dp_s {K : PySem.W.Frag} {H : Hp} : ∀ ss : List Str, DpAll K H (ss.map V.str) (ss.map PyData.str)
  | [] => .nil
  | x :: r => .cons (.str x) (dp_s r)
theorem eqvAll_s : ∀ xs ys : List Str, PyData.eqvAll (xs.map PyData.str) (ys.map PyData.str) = decide (xs = ys)
  | [], [] => rfl
  | [], _ :: _ => rfl
  | _ :: _, [] => rfl
  | x :: xs, y :: ys => by
    simp only [List.map_cons, PyData.eqvAll, PyData.eqv, eqvAll_s xs ys]
    by_cases h : x = y
    · subst h
      simp
    · have : (x == y) = false := beq_false_of_ne h
      rw [this]
      simp [h]
theorem eqvT (xs ys : List Str) : PyData.eqv (.tuple (xs.map PyData.str)) (.tuple (ys.map PyData.str)) = decide (xs = ys) := eqvAll_s xs ys
theorem eqvL (xs ys : List Str) : PyData.eqv (.list (xs.map PyData.str)) (.list (ys.map PyData.str)) = decide (xs = ys) := eqvAll_s xs ys
/-- == and != of two tuples of fixes -/
theorem eqT {K : PySem.W.Frag} {H : Hp} {Q : VK} {a b : Addr} {xs ys : List Str} (ha : SqT K H a (xs.map V.str)) (hb : SqT K H b (ys.map V.str)) (fx : ∀ x ∈ xs, PyData.strOk x = true) (fy : ∀ x ∈ ys, PyData.strOk x = true) (q : Q (.bl (decide (xs = ys))) H) : rEqD K (.ref a) (.ref b) H Q :=
  ⟨_, _, .tup ha (dp_s xs), .tup hb (dp_s ys), shapedT fx, shapedT fy, by rw [eqvT]; exact q⟩
theorem neT {K : PySem.W.Frag} {H : Hp} {Q : VK} {a b : Addr} {xs ys : List Str} (ha : SqT K H a (xs.map V.str)) (hb : SqT K H b (ys.map V.str)) (fx : ∀ x ∈ xs, PyData.strOk x = true) (fy : ∀ x ∈ ys, PyData.strOk x = true) (q : Q (.bl (!decide (xs = ys))) H) : rNeD K (.ref a) (.ref b) H Q :=
  ⟨_, _, .tup ha (dp_s xs), .tup hb (dp_s ys), shapedT fx, shapedT fy, by rw [eqvT]; exact q⟩
theorem eqL {K : PySem.W.Frag} {H : Hp} {Q : VK} {a b : Addr} {xs ys : List Str} (ha : SqL K H a (xs.map V.str)) (hb : SqL K H b (ys.map V.str)) (fx : ∀ x ∈ xs, PyData.strOk x = true) (fy : ∀ x ∈ ys, PyData.strOk x = true) (q : Q (.bl (decide (xs = ys))) H) : rEqD K (.ref a) (.ref b) H Q :=
  ⟨_, _, .lst ha (dp_s xs), .lst hb (dp_s ys), shapedL fx, shapedL fy, by rw [eqvL]; exact q⟩
theorem neL {K : PySem.W.Frag} {H : Hp} {Q : VK} {a b : Addr} {xs ys : List Str} (ha : SqL K H a (xs.map V.str)) (hb : SqL K H b (ys.map V.str)) (fx : ∀ x ∈ xs, PyData.strOk x = true) (fy : ∀ x ∈ ys, PyData.strOk x = true) (q : Q (.bl (!decide (xs = ys))) H) : rNeD K (.ref a) (.ref b) H Q :=
  ⟨_, _, .lst ha (dp_s xs), .lst hb (dp_s ys), shapedL fx, shapedL fy, by rw [eqvL]; exact q⟩
end K6
set_option Elab.async false
set_option linter.all false
set_option maxRecDepth 100000
set_option maxHeartbeats 1000000
/-! Lot: str, ==, in, len, iter. -/
namespace K6
open PySem PySem.Spec PyProof.Rows L2 RV EV He EF EI
section
variable {P : Program} {w : World} {K : PySem.W.Frag} {mg : Str → Option Value} {base : Heap}
theorem lm (T : KF P w K mg base) (q : Str × Nat) (h : q ∈ lotN) : Meth K (gO K) q.1 (lAd K q.1) := (T.lot q h).1
theorem sc1s (i : Nat) (h : (defScope (lSt i)).kind = .function := by rfl) : True := trivial
/-! __len__ -/
def spLenL (K : PySem.W.Frag) : Sp := fun vs H Q _ => ∃ p ns, vs = [.ref p] ∧ IsLot K H p ns ∧ Q (.int ns.length) H
theorem scLen : FnScope ["self"] ["self"] (defScope (lSt 7)) := ⟨rfl, rfl, rfl, by decide +kernel, rfl, by decide +kernel, by decide +kernel⟩
theorem ok_lenL (T : KF P w K mg base) {fd : FuncData} (F : FunD K "__len__" "Lot.__len__" (defArgs (lSt 7)) (defBody (lSt 7)) (defScope (lSt 7)) [] [] (lAd K "__len__") fd) : FnOk P w K mg base CX0 1 (lAd K "__len__") fd ["self"] (spLenL K) := by
  refine F.ok scLen (fun vs H Q E h => ?_) (fun cdv A outer s H vs Q E hr h => ?_)
  · obtain ⟨p, ns, rfl, _⟩ := h
    rfl
  · obtain ⟨p, ns, rfl, ⟨dx, tp, O⟩, k⟩ := h
    refine ⟨_, PSs.nox (pss_one (ps_ret (pe_callB call_len_seq (by rfl) (T.fr "len" (by decide)) PySem.boot_len (pa_cons (pe_fld (pv 0) rfl) pa_nil)))), ?_⟩
    refine ⟨_, rfl, p, gO K, dx, _, _, rfl, O.ob, T.clo, T.noF, rfl, tp, _, rfl, .inr (SqT.of O.ps), ?_⟩
    rw [List.length_map]
    exact k
/-! __iter__ -/
def spIterL (K : PySem.W.Frag) (z : Nat) : Sp := fun vs H Q _ => ∃ p ns dx tp, vs = [.ref p] ∧ LO K H p dx tp ns ∧ ∀ it, H it = none → z ≤ it → Q (.ref it) (upd H it (Ow.TuO tp it))
/-! __str__ -/
def lotText (ns : List Str) : Str := if ns.isEmpty then "-" else Txt.join " " ns
def spStrL (K : PySem.W.Frag) : Sp := fun vs H Q _ => ∃ p ns, vs = [.ref p] ∧ IsLot K H p ns ∧ Q (.str (lotText ns)) H
theorem scStr : FnScope ["self"] ["self"] (defScope (lSt 4)) := ⟨rfl, rfl, rfl, by decide +kernel, rfl, by decide +kernel, by decide +kernel⟩
theorem sum_len {ns : List Str} (h : ∀ x ∈ ns, x.length ≤ 8) : (ns.map fun x => x.length).sum ≤ ns.length * 8 := by
  induction ns with
  | nil => exact Nat.le_refl _
  | cons x r ih =>
    have h1 := h x (List.mem_cons_self ..)
    have h2 := ih fun y hy => h y (List.mem_cons_of_mem _ hy)
    rw [List.map_cons, List.sum_cons, List.length_cons]
    omega
theorem one_ : (" " : Str).length = 1 := by decide +kernel
theorem ok_strL (T : KF P w K mg base) {fd : FuncData} (F : FunD K "__str__" "Lot.__str__" (defArgs (lSt 4)) (defBody (lSt 4)) (defScope (lSt 4)) [] [] (lAd K "__str__") fd) : FnOk P w K mg base CX0 1 (lAd K "__str__") fd ["self"] (spStrL K) := by
  refine F.ok scStr (fun vs H Q E h => ?_) (fun cdv A outer s H vs Q E hr h => ?_)
  · obtain ⟨p, ns, rfl, _⟩ := h
    rfl
  · obtain ⟨p, ns, rfl, ⟨dx, tp, O⟩, k⟩ := h
    refine ⟨_, PSs.nox (pss_cons (ps_if (pt_not (pt_truth (pe_fld (pv 0) rfl) (fun _ => rfl))) (pss_one (ps_ret pe_str)) pss_nil) (pss_one (ps_ret (pe_join pe_str (pe_fld (pv 0) rfl))))), ?_⟩
    refine ⟨_, rfl, p, gO K, dx, _, _, rfl, O.ob, T.clo, T.noF, rfl, !(ns.map V.str).isEmpty, .inr (.inl ⟨_, SqT.of O.ps, rfl⟩), ?_⟩
    unfold lotText at k
    have e : (ns.map V.str).isEmpty = ns.isEmpty := by cases ns <;> rfl
    rw [e]
    cases e2 : ns.isEmpty with
    | true =>
      rw [e2] at k
      exact if_posB rfl k
    | false =>
      rw [e2] at k
      have k : Q (.str (Txt.join " " ns)) H := k
      refine if_negB rfl ⟨⟨_, rfl⟩, _, rfl, p, gO K, dx, _, _, rfl, O.ob, T.clo, T.noF, rfl, " ", tp, ns, rfl, rfl, .inr (SqT.of O.ps), ?_, k⟩
      have h1 := sum_len fun x hx => fix_len (O.fx x hx)
      have h2 := O.le
      rw [one_]
      omega
/-! __eq__ -/
theorem scEq : FnScope ["self", "other"] ["self", "other"] (defScope (lSt 5)) := ⟨rfl, rfl, rfl, by decide +kernel, rfl, by decide +kernel, by decide +kernel⟩
/-- the other one is a lot, or of a kind that is none -/
def spEqL (K : PySem.W.Frag) : Sp := fun vs H Q _ => ∃ p ns v, vs = [.ref p, v] ∧ IsLot K H p ns ∧ ((∃ q ms, v = .ref q ∧ IsLot K H q ms ∧ Q (.bl (decide (ns = ms))) H) ∨ (∃ t, TyX K H v t ∧ PySem.W.kitOne K t (.ref (gO K)) = some false ∧ Q (.bl false) H))
theorem fx_ok {K : PySem.W.Frag} {H : Hp} {p dx tp : Addr} {ns : List Str} (O : LO K H p dx tp ns) : ∀ x ∈ ns, PyData.strOk x = true := fun x hx => fix_ok (O.fx x hx)
theorem ok_eqL (T : KF P w K mg base) {fd : FuncData} (F : FunD K "__eq__" "Lot.__eq__" (defArgs (lSt 5)) (defBody (lSt 5)) (defScope (lSt 5)) [] [] (lAd K "__eq__") fd) : FnOk P w K mg base CX0 1 (lAd K "__eq__") fd ["self", "other"] (spEqL K) := by
  refine F.ok scEq (fun vs H Q E h => ?_) (fun cdv A outer s H vs Q E hr h => ?_)
  · obtain ⟨p, ns, v, rfl, _⟩ := h
    rfl
  · obtain ⟨p, ns, v, rfl, ⟨dx, tp, O⟩, k⟩ := h
    refine ⟨_, PSs.nox (pss_one (ps_ret (pe_and (pe_callB call_isi (by rfl) (T.fr "isinstance" (by decide)) PyProof.Rows.boot_isinstance (pa_cons (pv 1) (pa_cons (pe_glob (v := .ref (gO K)) (by rfl) T.go rfl) pa_nil))) (pe_one (pe_cmpR (op_eqD hr.units) (pe_fld (pv 0) rfl) (pe_fld (pv 1) rfl) (nomark _)))))), ?_⟩
    rcases k with ⟨q, ms, rfl, ⟨dy, tq, O2⟩, k⟩ | ⟨t, ty, kt, k⟩
    · refine ⟨_, rfl, .ref q, .ref (gO K), _, _, true, rfl, .own _, ty_lot T O2.ob, kit_lot T, true, rfl, if_posB rfl ?_⟩
      refine ⟨_, rfl, p, gO K, dx, _, _, rfl, O.ob, T.clo, T.noF, rfl, _, rfl, q, gO K, dy, _, _, rfl, O2.ob, T.clo, T.noF, rfl, ?_⟩
      exact eqT (SqT.of O.ps) (SqT.of O2.ps) (fx_ok O) (fx_ok O2) k
    · exact ⟨_, rfl, v, .ref (gO K), _, _, false, rfl, .own _, ty, kt, false, rfl, if_negB rfl k⟩
/-! __contains__ -/
theorem scCo : FnScope ["self", "x"] ["self", "x"] (defScope (lSt 6)) := ⟨rfl, rfl, rfl, by decide +kernel, rfl, by decide +kernel, by decide +kernel⟩
def spCoL (K : PySem.W.Frag) : Sp := fun vs H Q _ => ∃ p ns v, vs = [.ref p, v] ∧ IsLot K H p ns ∧ ((∃ x, v = .str x ∧ isFixB x = true ∧ ∀ H', Same H H' → Q (.bl (decide (x ∈ ns))) H') ∨ (NoFix K H v ∧ ∀ H', Same H H' → Q (.bl false) H'))
theorem ok_coL (T : KF P w K mg base) {fd : FuncData} (F : FunD K "__contains__" "Lot.__contains__" (defArgs (lSt 6)) (defBody (lSt 6)) (defScope (lSt 6)) [] [] (lAd K "__contains__") fd) : FnOk P w K mg base CX0 2 (lAd K "__contains__") fd ["self", "x"] (spCoL K) := by
  obtain ⟨fdF, FF, gF⟩ := T.tops ("is_fix", 4) (by decide)
  have GF : FnOk P w K mg base CX0 1 (ga K "is_fix") fdF ["value"] (spFix K) := ok_fix FF (blt2 T)
  have bF : L2.Binds K fdF ["value"] [] := FunD.bindsN FF fun _ _ _ _ _ _ us hl => match us, hl with | [_], _ => rfl
  refine F.ok scCo (fun vs H Q E h => ?_) (fun cdv A outer s H vs Q E hr h => ?_)
  · obtain ⟨p, ns, v, rfl, _⟩ := h
    rfl
  · obtain ⟨p, ns, v, rfl, ⟨dx, tp, O⟩, k⟩ := h
    refine ⟨_, PSs.nox (pss_one (ps_ret (pe_and (pe_call (E := E0) GF hr (by rfl) gF FF.kp bF .nil pass0 (pa_cons (pv 1) pa_nil)) (pe_one (pe_cmpR op_in_seq (pv 1) (pe_fld (pv 0) rfl) rfl))))), ?_⟩
    refine ⟨_, rfl, ?_⟩
    unfold tNil
    show spFix K [v] H _ _
    rcases k with ⟨x, rfl, hx, k⟩ | ⟨nf, k⟩
    · refine sp_fix (.inl ⟨x, rfl, hx⟩) fun H' s' b hb => ⟨b, rfl, if_posB (by rw [hb]; exact hx) ?_⟩
      have O' := O.same s'
      refine ⟨_, rfl, _, rfl, p, gO K, dx, _, _, rfl, O'.ob, T.clo, T.noF, rfl, tp, _, rfl, .inr (SqT.of O'.ps), rfl, flat_strs ns, ?_⟩
      show Q (.bl (inV (.str x) (ns.map V.str))) H'
      rw [inV_str]
      exact k H' s'
    · refine sp_fix (.inr nf) fun H' s' b hb => ⟨b, rfl, if_negB ?_ (k H' s')⟩
      rw [hb]
      rcases nf with ⟨x, rfl, _, h⟩ | ⟨t, ht, hk⟩
      · exact h
      · cases v with
        | str x =>
          have e : t = .type "str" := by
            cases ht with
            | base h => cases h; rfl
          subst e
          exact absurd hk (by rw [kit_ty (by decide +kernel : kitB "str" "str" = some true)]; intro z; cases z)
        | _ => rfl
/-! __iter__ -/
theorem scIt : FnScope ["self"] ["self"] (defScope (lSt 8)) := ⟨rfl, rfl, rfl, by decide +kernel, rfl, by decide +kernel, by decide +kernel⟩
theorem gives_iterL {X : Cx} (T : KF X.prog X.w X.K X.mg X.base) {H : Hp} {p dx tp : Addr} {ns : List Str} (O : LO X.K H p dx tp ns) : Ow.Gives1 X 1 (lAd X.K "__iter__") p tp H := by
  obtain ⟨_, fd, F⟩ := T.lot ("__iter__", 8) (by decide)
  have b := FunD.bindsA (ps := ["self"]) F fun _ _ _ _ _ _ us hl => match us, hl with | [_], _ => rfl
  obtain ⟨oc, od, dV, kV, doc, pm, an, cdv, ct, osl, rfl, lk, hcd, hD, hK⟩ := F.ex
  intro s e0 hr hK
  refine LamX.run_ofS (N := ["self"]) (ps := ["self"]) (us := [.ref p]) (vs := [.ref p]) lk hcd scIt hr e0 (b s [.ref p] rfl) (.cons rfl .nil) rfl fun hr' => ?_
  refine ⟨_, PSs.nox (pss_one (ps_ret (pe_callB Ow.call_iterT (by rfl) (T.fr "iter" (by decide)) (by decide +kernel) (pa_cons (pe_fld (pv 0) rfl) pa_nil)))), ?_⟩
  exact ⟨_, rfl, p, _, dx, _, _, rfl, O.ob, T.clo, T.noF, rfl, tp, _, rfl, SqT.of O.ps, fun it n1 n2 => ⟨it, rfl, n1, n2, rfl⟩⟩
end
end K6
set_option Elab.async false
set_option linter.all false
set_option maxRecDepth 100000
set_option maxHeartbeats 1000000
/-! t[sl]: a tuple at a slice object. -/
namespace Oo
open PySem PySem.Spec PyProof.Rows L2 PySem.W HT
section
variable {α : Type}
def bnds (lo hi : Option Int) (c : Int) (n : Nat) : Int × Int := Builtin.Slice.sliceAdjust lo hi c n
def places (lo hi : Option Int) (c : Int) (n : Nat) : Nat := Builtin.Slice.slicePlaces (bnds lo hi c n).1 (bnds lo hi c n).2 c
/-- the places of a slice with a step, in order -/
def pickT (xs : List α) (lo hi : Option Int) (c : Int) : List α := (List.range (places lo hi c xs.length)).filterMap fun (m : Nat) => xs[((bnds lo hi c xs.length).1 + (m : Int) * c).toNat]?
end
theorem pickT_map {α β : Type} (f : α → β) (xs : List α) (lo hi : Option Int) (c : Int) : pickT (xs.map f) lo hi c = (pickT xs lo hi c).map f := by
  unfold pickT
  rw [List.map_filterMap, List.length_map]
  refine congrArg (fun g => List.filterMap g _) (funext fun m => ?_)
  rw [List.getElem?_map]
section
variable {prog : Program} {w : World} {A : Around} {E : Value → Shared → Prop} {s : Shared}
theorem applied_st {sl : Addr} {vl vu vs : Value} {lo hi : Option Int} {c : Int} {n : Nat} {Q : Int × Int × Nat → Shared → Prop} (hs : s.heap.IsSliceOf sl vl vu vs) (pl : IsPart vl lo) (pu : IsPart vu hi) (ps : IsPart vs (some c)) (h0 : c ≠ 0)
    (h : Q ((bnds lo hi c n).1, c, places lo hi c n) s) : wpAny (model prog w) A (Builtin.Slice.sliceApplied (.ref sl) (pure (n : Int))) Q E s := by
  obtain ⟨o, e1, e2, e3⟩ := id hs
  unfold Builtin.Slice.sliceApplied Builtin.Slice.sliceFields
  refine wpAny_bind (wpAny_bind (wpAny_field e1 e3 (x := vl) rfl (wpAny_bind (wpAny_field e1 e3 (x := vu) rfl (wpAny_bind (wpAny_field e1 e3 (x := vs) rfl (wpAny_pure ?_)))))))
  refine wpAny_bind (slicePart_ ps ?_)
  have q : ¬ (((some c).getD 1 == 0) = true) := by
    intro z
    exact h0 (eq_of_beq (show (c == 0) = true from z))
  rw [if_neg q]
  exact wpAny_bind (slicePart_ pl (wpAny_bind (slicePart_ pu (wpAny_bind (wpAny_pure (wpAny_pure h))))))
theorem getItem_st {t sl : Addr} {its : List Value} {vl vu vs : Value} {lo hi : Option Int} {c : Int} {Q : Value → Shared → Prop} (ht : IsTup s.heap t its.toArray) (hs : s.heap.IsSliceOf sl vl vu vs) (pl : IsPart vl lo) (pu : IsPart vu hi) (ps : IsPart vs (some c)) (h0 : c ≠ 0) (h1 : c ≠ 1)
    (hz : (pickT its lo hi c).length ≤ sizeLine) (h : Q (.ref s.heap.objs.size) { s with heap := s.heap.push { cls := .type "tuple", data := .seq (pickT its lo hi c).toArray } }) : wpAny (model prog w) A (getItem (.ref t) (.ref sl)) Q E s := by
  have ok : sizeOk (.seq (pickT its lo hi c).toArray) := by
    show (pickT its lo hi c).toArray.size ≤ sizeLine
    rw [List.size_toArray]
    exact hz
  obtain ⟨o, e1, e2, e3⟩ := id hs
  have kind : s.TypeIs (.ref sl) "slice" := ⟨o, e1, e2⟩
  unfold getItem
  try with_reducible refine wpAny_holding ?_
  first | refine wpAny_bind (wpAny_pure ?_) | skip
  refine wpAny_bind (wpAny_sequenceKey ht.typeIs (by decide) ?_)
  refine wpAny_bind (wpAny_callSpecial?_slot (name := Str.ofString "__getitem__") ht.typeIs PyProof.Rows.slot_tuple_getitem (wpAny_call_entry PyProof.Rows.slot_tuple_getitem ht.typeIs entry_tuple_getitem ?_ (args_tuple_getitem _ _)))
  show wpAny _ _ (Builtin.Tuple.tupleItemsOf (.ref t) >>= _) _ _ s
  refine wpAny_bind (tupleItemsOf_ ht (wpAny_bind (wpAny_typeOf kind ?_)))
  rw [if_pos (by decide)]
  refine wpAny_bind (applied_st (n := its.toArray.size) hs pl pu ps h0 ?_)
  have nw : ¬ (((bnds lo hi c its.toArray.size).1 == 0 && c == 1 && places lo hi c its.toArray.size == its.toArray.size) = true) := by
    intro z
    obtain ⟨z, _⟩ := Bool.and_eq_true_iff.mp z
    obtain ⟨_, z⟩ := Bool.and_eq_true_iff.mp z
    exact h1 (eq_of_beq z)
  show wpAny _ _ (if ((bnds lo hi c its.toArray.size).1 == 0 && c == 1 && places lo hi c its.toArray.size == its.toArray.size) = true then _ else _) _ _ s
  rw [if_neg nw]
  have e : ((List.range (places lo hi c its.toArray.size)).filterMap fun (m : Nat) => its.toArray[((bnds lo hi c its.toArray.size).1 + (m : Int) * c).toNat]?).toArray = (pickT its lo hi c).toArray := by
    unfold pickT
    rw [List.size_toArray]
    refine congrArg List.toArray (congrArg (fun g => List.filterMap g _) (funext fun m => ?_))
    rw [List.getElem?_toArray]
  rw [e]
  first
    | exact wpAny_bind (m := Builtin.Tuple.tupleExact _) (wpAny_newObj_type (wpAny_pure ⟨_, rfl, wpAny_pure h⟩) ok)
    | exact wpAny_bind (m := Builtin.Tuple.tupleExact _) (wpAny_newObj_type (wpAny_bind (wpAny_pure (wpAny_pure ⟨_, rfl, wpAny_pure h⟩))) ok)
    | exact wpAny_bind (wpAny_bind (m := Builtin.Tuple.tupleExact _) (wpAny_newObj_type (wpAny_pure (wpAny_pure ⟨_, rfl, wpAny_pure h⟩)) ok))
    | exact wpAny_bind (wpAny_bind (m := Builtin.Tuple.tupleExact _) (wpAny_newObj_type (wpAny_pure ⟨_, rfl, wpAny_pure h⟩) ok))
end
section
variable {X : Cx}
/-- t[sl] by values: sl a slice object without a step, or with one that is not 0 and not 1 -/
def rTSl (K : Frag) : R2 := fun x y H Q => ∃ a sl xs lo hi st, x = .ref a ∧ y = .ref sl ∧ SqT K H a xs ∧ H sl = some (SlcO sl lo hi st) ∧ xs.length ≤ 1000 ∧
  ((st = none ∧ (HT.sIx xs.length 0 lo = 0 ∧ HT.sIx xs.length xs.length hi = xs.length → Q (.ref a) H) ∧ (¬ (HT.sIx xs.length 0 lo = 0 ∧ HT.sIx xs.length xs.length hi = xs.length) → ∀ p, H p = none → Q (.ref p) (upd H p (.tup (cutV xs lo hi))))) ∨
   (∃ c, st = some c ∧ c ≠ 0 ∧ c ≠ 1 ∧ (pickT xs lo hi c).length ≤ 1000 ∧ ∀ p, H p = none → Q (.ref p) (upd H p (.tup (pickT xs lo hi c)))))
theorem vals_pick {xs : List V} {its : List Value} (r : Vals xs its) (lo hi : Option Int) (c : Int) : Vals (pickT xs lo hi c) (pickT its lo hi c) := by
  unfold pickT
  rw [r.length]
  generalize places lo hi c its.length = n
  generalize (bnds lo hi c its.length).1 = b
  induction List.range n with
  | nil => exact .nil
  | cons m l ih =>
    cases e : xs[(b + (m : Int) * c).toNat]? with
    | none =>
      have e2 : its[(b + (m : Int) * c).toNat]? = none := by
        rw [List.getElem?_eq_none_iff] at e ⊢
        rw [← r.length]; exact e
      simp only [List.filterMap_cons, e, e2]
      exact ih
    | some z =>
      obtain ⟨u, hu, ru⟩ := r.get e
      simp only [List.filterMap_cons, e, hu]
      exact .cons ru ih
theorem ix_tsl : IxR X (rTSl X.K) := by
  intro value slice pins s σ H x y v u Q I rx ry h hsub
  obtain ⟨a, sl, xs, lo, hi, st, rfl, rfl, hx, hsl, hz, k⟩ := h
  obtain rfl : v = Value.ref a := rx
  obtain rfl : u = Value.ref sl := ry
  obtain ⟨⟨vl, vu, vs, is, pl, pu, ps⟩, _, _⟩ := I.hok sl _ hsl
  rcases k with ⟨rfl, k1, k2⟩ | ⟨c, rfl, h0, h1, hp, k⟩
  · cases ps
    obtain ⟨T, id, hT, ht, hg⟩ := sl_tupA pins s σ H (.ref a) (.ref a) vl vu lo hi sl Q I rfl is pl pu ⟨a, xs, rfl, hx, k1, k2⟩
    exact tail_any (ops := [.ref a, .ref sl]) ht hT hg hsub
  · obtain ⟨its, r, ht, _⟩ := I.tuple hx
    have rp := vals_pick r lo hi c
    refine tail_any (ops := [.ref a, .ref sl]) ht.typeIs PyProof.Rows.slot_tuple_getitem.lookup (getItem_st ht is pl pu ps h0 h1 (by rw [← rp.length, sizeLine_eq]; omega) ?_) hsub
    refine ⟨.ref s.heap.objs.size, _, I.laid (t' := s.toks) (o := .tup (pickT xs lo hi c)) (fun b ob q => Heap.get?_push_of_some _ q) (Nat.le_refl _) ?_, rfl, k _ (I.hok.fresh (Nat.le_refl _))⟩
    exact ⟨by rw [sizeLine_eq]; omega, _, rp, ⟨_, Heap.get?_push_size _ rfl, rfl, _, rfl⟩⟩
end
end Oo
set_option Elab.async false
set_option linter.all false
set_option maxRecDepth 100000
set_option maxHeartbeats 1000000
/-! Lot: items and slices. -/
namespace K6
open PySem PySem.Spec PyProof.Rows L2 RV EV He EF EI
section
variable {P : Program} {w : World} {K : PySem.W.Frag} {mg : Str → Option Value} {base : Heap}
abbrev scGt_N : List Str := ["self", "at", "found"]
theorem scGt : FnScope scGt_N ["self", "at"] (defScope (lSt 9)) := ⟨rfl, rfl, rfl, by decide +kernel, rfl, by decide +kernel, by decide +kernel⟩
/-- what a slice of names is -/
def resS (ns : List Str) (lo hi : Option Int) : Option Int → List Str
  | none => (ns.drop (HT.sIx ns.length 0 lo)).take (HT.sIx ns.length ns.length hi - HT.sIx ns.length 0 lo)
  | some c => Oo.pickT ns lo hi c
def spGtL (K : PySem.W.Frag) : Sp := fun vs H Q E => ∃ p ns y, vs = [.ref p, y] ∧ IsLot K H p ns ∧ ((∃ i z, y = .int i ∧ atI ns i = some z ∧ Q (.str z) H) ∨
  (∃ sl lo hi st, y = .ref sl ∧ H sl = some (Oo.SlcO sl lo hi st) ∧ (st = none ∨ ∃ c, st = some c ∧ c ≠ 0 ∧ c ≠ 1) ∧ (resS ns lo hi st).length ≤ 1000 ∧ ∀ H', Same H H' → MkLot K ((resS ns lo hi st).map V.str) H' Q E))
theorem atI_map {α β : Type} (f : α → β) (xs : List α) (i : Int) : atI (xs.map f) i = (atI xs i).map f := by
  unfold atI
  simp only [List.length_map, List.getElem?_map]
  cases ixN xs.length i <;> rfl
theorem cutV_map (ns : List Str) (lo hi : Option Int) : cutV (ns.map V.str) lo hi = (resS ns lo hi none).map V.str := by
  unfold cutV resS
  rw [List.length_map, List.map_take, List.map_drop]
theorem ok_gtL (T : KF P w K mg base) {fd : FuncData} (F : FunD K "__getitem__" "Lot.__getitem__" (defArgs (lSt 9)) (defBody (lSt 9)) (defScope (lSt 9)) [] [] (lAd K "__getitem__") fd) : FnOk P w K mg base (L2.CX P w) 6 (lAd K "__getitem__") fd ["self", "at"] (spGtL K) := by
  refine F.ok scGt (fun vs H Q E h => ?_) (fun cdv A outer s H vs Q E hr h => ?_)
  · obtain ⟨p, ns, y, rfl, _⟩ := h
    rfl
  · obtain ⟨p, ns, y, rfl, ⟨dx, tp, O⟩, k⟩ := h
    refine ⟨_, pss_cons (ps_set (i := 2) scGt.nd rfl (.inl rfl) (pe_ix (ix_tup.or Oo.ix_tsl) (pe_fld (pv 0) rfl) (pv 1) (fun _ _ => rfl)))
      (pss_one (ps_ret (pe_ifExp (pt_val (pe_callB call_isi (by rfl) (T.fr "isinstance" (by decide)) PyProof.Rows.boot_isinstance (pa_cons (pv 2) (pa_cons (pe_bltn (v := .ty "tuple") (by rfl) (T.fr "tuple" (by decide)) boot_T rfl) pa_nil))))
        (Oo.pe_newS (E := E) T.mko (ok_li T) (hr.mono (by decide)) (by rfl) T.go (passes_call (takes_of rfl rfl rfl rfl) fun _ _ _ _ h => h) (pv 2)) (pv 2)))), ?_⟩
    have tup : ∀ (q : Addr) (ms : List Str) (H1 : Hp), H1 q = some (.tup (ms.map V.str)) → MkLot K (ms.map V.str) H1 Q E →
        tRet (tIf (tB (tCB (rIsi K) (tCons (tVar 2) (tCons (tC (V.ty "tuple")) tNil)))) (Oo.tStarNew K (gO K) (spStar (spLi K)) E (tVar 2)) (tVar 2)) { nx := fun _ H' => Q .non H', rt := Q } [some (.ref p), some y, some (.ref q)] H1 := by
      intro q ms H1 e m
      refine ⟨_, rfl, .ref q, .ty "tuple", _, _, true, rfl, .ty _, .base (.tup e), kit_ty (by decide +kernel), true, rfl, if_posB rfl ?_⟩
      exact ⟨_, rfl, q, _, rfl, .inl (SqT.of e), new_of m⟩
    rcases k with ⟨i, z, rfl, hz, k⟩ | ⟨sl, lo, hi, st, rfl, hsl, hst, hz, k⟩
    · refine ⟨_, rfl, p, gO K, dx, _, _, rfl, O.ob, T.clo, T.noF, rfl, _, rfl, .inl ⟨tp, _, i, .str z, rfl, rfl, SqT.of O.ps, by rw [atI_map, hz]; rfl, ?_⟩⟩
      refine ⟨_, rfl, .str z, .ty "tuple", _, _, false, rfl, .ty _, .base (.str z), kit_ty (by decide +kernel), false, rfl, if_negB rfl ⟨_, rfl, k⟩⟩
    · have lz : (ns.map V.str).length = ns.length := List.length_map _
      have le8 := O.le
      refine ⟨_, rfl, p, gO K, dx, _, _, rfl, O.ob, T.clo, T.noF, rfl, _, rfl, .inr ⟨tp, sl, _, lo, hi, st, rfl, rfl, SqT.of O.ps, hsl, by rw [lz]; omega, ?_⟩⟩
      rcases hst with rfl | ⟨c, rfl, h0, h1⟩
      · refine .inl ⟨rfl, fun hw => ?_, fun hw q nq => ?_⟩
        · have e : resS ns lo hi none = ns := by
            rw [lz] at hw
            unfold resS
            rw [hw.1, hw.2, List.drop_zero, Nat.sub_zero, List.take_of_length_le (Nat.le_refl _)]
          have k0 := k H fun _ _ e => e
          rw [e] at k0
          exact tup tp ns H O.ps k0
        · rw [cutV_map]
          exact tup q _ _ upd_same (k _ (same_new nq))
      · refine .inr ⟨c, rfl, h0, h1, by rw [Oo.pickT_map, List.length_map]; exact hz, fun q nq => ?_⟩
        rw [Oo.pickT_map]
        exact tup q _ _ upd_same (k _ (same_new nq))
end
end K6
set_option Elab.async false
set_option linter.all false
set_option maxRecDepth 100000
set_option maxHeartbeats 1000000
/-! Lot: the four signs. -/
namespace K6
open PySem PySem.Spec PyProof.Rows L2 RV EV He EF EI
section
variable {P : Program} {w : World} {K : PySem.W.Frag} {mg : Str → Option Value} {base : Heap}
/-- those that are in the other one, or are not -/
def sift (ns ms : List Str) (b : Bool) : List Str := ns.filter fun x => decide (x ∈ ms) == b
def NewL (K : PySem.W.Frag) (Q : VK) (ns : List Str) (H' : Hp) : Prop := ∀ H2 r dx tp, Same H' H2 → LO K H2 r dx tp ns → Q (.ref r) H2
theorem asc_sift {ns ms : List Str} {b : Bool} (h : Asc ns) : Asc (sift ns ms b) := List.Pairwise.filter _ h
def spSi (K : PySem.W.Frag) : Sp := fun vs H Q _ => ∃ p q b ns ms, vs = [.ref p, .ref q, .bl b] ∧ IsLot K H p ns ∧ IsLot K H q ms ∧ NewL K Q (sift ns ms b) H
abbrev ttSi (K : PySem.W.Frag) : TT := tTest (tOp rEq (tOp (rIn K false) (tVar 3) (tFld K (tVar 1) "fixes")) (tVar 2))
abbrev scSi_N : List Str := ["self", "other", "is_in", "fix"]
theorem scSi : FnScope scSi_N ["self", "other", "is_in"] (defScope (lSt 18)) := ⟨rfl, rfl, rfl, by decide +kernel, rfl, by decide +kernel, by decide +kernel⟩
theorem new_sift {H : Hp} {Q : VK} {E : XK} {ns : List Str} (h8 : ns.length ≤ 8) (ha : Asc ns) (hf : ∀ x ∈ ns, isFixB x = true) (k : NewL K Q ns H) : ∀ H', Same H H' → MkLot K (ns.map V.str) H' Q E := fun H' s' =>
  .good (by omega) hf fun H1 s1 => ⟨fun _ H2 p dx tp s2 o => k H2 p dx tp ((s'.trans s1).trans s2) (by rw [← lined_asc ha]; exact o), fun h => by rw [lined_asc ha] at h; omega⟩
theorem ok_si (T : KF P w K mg base) {fd : FuncData} (F : FunD K "sifted" "Lot.sifted" (defArgs (lSt 18)) (defBody (lSt 18)) (defScope (lSt 18)) [] [] (lAd K "sifted") fd) : FnOk P w K mg base (L2.CX P w) 7 (lAd K "sifted") fd ["self", "other", "is_in"] (spSi K) := by
  obtain ⟨fo, Fo⟩ := T.fo
  have bo : L2.Binds K fo ["fixes"] [] := FunD.bindsN Fo fun _ _ _ _ _ _ us hl => match us, hl with | [_], _ => rfl
  have Go := Oo.FnOk.r0 (ok_of T Fo) bo
  refine F.ok scSi (fun vs H Q E h => ?_) (fun cdv A outer s H vs Q E hr h => ?_)
  · obtain ⟨p, q, b, ns, ms, rfl, _⟩ := h
    rfl
  · obtain ⟨p, q, b, ns, ms, rfl, ⟨dx, tp, O⟩, ⟨dy, tq, O2⟩, k⟩ := h
    refine ⟨_, pss_one (ps_ret (Oo.pe_smeth (E := E) (pe_glob (v := .ref (gO K)) (by rfl) T.go rfl) (cread T) (smet T) Go hr (passes_call (takes_of rfl rfl rfl rfl) fun _ _ _ _ h => h)
      (pa_cons (pe_lc (own := [("fix", 3)]) (g := gName 3) (tt := ttSi K) (te := tVar 3) rfl scSi.nd (pi_tup (pe_fld (pv 0) rfl)) (blkOk_by (N := scSi_N) (sc := defScope (lSt 18)) (by decide +kernel)) (fun _ _ _ _ _ => pg_name (i := 3) scSi.nd rfl (.inl rfl))
        (fun _ _ _ _ _ => pts_one (pt_cmpR op_eq (pe_cmpR op_in_seq (pv 3) (pe_fld (pv 1) rfl) rfl) (pv 2) (nomark _))) (fun _ _ _ _ _ => pv 3)) pa_nil))), ?_⟩
    refine ⟨rfl, _, rfl, p, gO K, dx, _, _, rfl, O.ob, T.clo, T.noF, rfl, tp, rfl, ⟨_, SqT.of O.ps⟩, fun D nD => ?_⟩
    refine lc_it (walk_tup (xs := ns.map V.str)) (fun i H' => Same H H' ∧ H' D = some (.lst ((sift (ns.take i) ms b).map V.str))) ⟨fun c u e => by rw [upd_ne (ne_of_none e nD)]; exact e, upd_same⟩ (fun i H' _ z => SqT.of (z.1 _ _ O.ps)) ?_ ?_
    · rintro i x H1 H2 hi ⟨s1, hD⟩ ⟨rfl, hx⟩
      rw [List.getElem?_map] at hx
      cases e : ns[i]? with
      | none => rw [e] at hx; exact nomatch hx
      | some z =>
        rw [e] at hx
        obtain rfl : V.str z = x := Option.some.inj hx
        obtain ⟨hl, hv⟩ := List.getElem?_eq_some_iff.mp e
        have O2' := O2.same s1
        have more : ns.take (i + 1) = ns.take i ++ [z] := by rw [← hv]; exact List.take_succ_eq_append_getElem hl
        refine ⟨rfl, _, rfl, _, rfl, q, gO K, dy, _, _, rfl, O2'.ob, T.clo, T.noF, rfl, tq, _, rfl, .inr (SqT.of O2'.ps), rfl, flat_strs ms, _, rfl, rfl, _, rfl, ?_⟩
        have ec : decide (V.bl (inV (.str z) (ms.map V.str)) = V.bl b) = (decide (z ∈ ms) == b) := by
          rw [inV_str]
          cases decide (z ∈ ms) <;> cases b <;> rfl
        show if decide (V.bl (inV (.str z) (ms.map V.str)) = V.bl b) = true then _ else _
        rw [ec]
        have es : sift (ns.take (i + 1)) ms b = sift (ns.take i) ms b ++ (if (decide (z ∈ ms) == b) = true then [z] else []) := by
          unfold sift
          rw [more, List.filter_append]
          congr 1
          by_cases h : (decide (z ∈ ms) == b) = true
          · rw [if_pos h, List.filter_cons, if_pos h, List.filter_nil]
          · rw [if_neg h, List.filter_cons, if_neg h, List.filter_nil]
        have le8 := O.le
        by_cases h : (decide (z ∈ ms) == b) = true
        · rw [if_pos h] at es ⊢
          refine ⟨_, rfl, _, hD, ?_, fun c u e2 => ?_, ?_⟩
          · have l1 : (sift (ns.take i) ms b).length ≤ (ns.take i).length := List.length_filter_le _ _
            rw [List.length_take] at l1
            rw [List.length_map, sizeLine_eq]
            omega
          · rw [upd_ne (ne_of_none e2 nD)]
            exact s1 c u e2
          · rw [upd_same, es, List.map_append]
            rfl
        · rw [if_neg h] at es ⊢
          rw [List.append_nil] at es
          exact ⟨s1, by rw [es]; exact hD⟩
    · rintro H1 ⟨s1, hD⟩
      rw [List.length_map, List.take_of_length_le (Nat.le_refl _)] at hD
      refine ⟨_, rfl, .inl ⟨_, ⟨D, rfl, .inl hD⟩, new_sift (Nat.le_trans (List.length_filter_le _ _) O.le) (asc_sift O.asc) (fun x hx => O.fx x ((List.mem_filter.mp hx).1)) fun H2 r dz tz s2 o => k H2 r dz tz (s1.trans s2) o⟩⟩
end
end K6
set_option Elab.async false
set_option linter.all false
set_option maxRecDepth 100000
set_option maxHeartbeats 1000000
/-! Lot: or, and, sub, xor. -/
namespace K6
open PySem PySem.Spec PyProof.Rows L2 RV EV He EF EI
section
variable {P : Program} {w : World} {K : PySem.W.Frag} {mg : Str → Option Value} {base : Heap}
/-- the other one: a lot, or something that is none -/
def Other (K : PySem.W.Frag) (H : Hp) (E : XK) (v : V) (R : Addr → List Str → Hp → Prop) : Prop :=
  (∃ q ms, v = .ref q ∧ IsLot K H q ms ∧ R q ms H) ∨ ((∃ t ∈ besT, TyX K H v (.type t)) ∧ Bad1 (ga K "BadLot") "part" H E (.str "other"))
def spBin (K : PySem.W.Frag) (R : List Str → List Str → VK → XK → Hp → Prop) : Sp := fun vs H Q E => ∃ p ns v, vs = [.ref p, v] ∧ IsLot K H p ns ∧ Other K H E v fun _ ms H' => R ns ms Q E H'
abbrev tTwo (K : PySem.W.Frag) (E : XK) : TS := tIfS (tNot (tB (tCB (rIsi K) (tCons (tVar 1) (tCons (tC (V.ref (gO K))) tNil))))) (tRaise1 (ga K "BadLot") "part" (tC (V.str "other")) fun cls d x H => E cls d H) tNext
theorem two_read (T : KF P w K mg base) {s0 v : V} {H : Hp} {E : XK} {D : Ends} {R : Addr → List Str → Hp → Prop} (o : Other K H E v R) (k : ∀ q ms, v = .ref q → IsLot K H q ms → R q ms H → D.nx [some s0, some v] H) : tTwo K E D [some s0, some v] H := by
  rcases o with ⟨q, ms, rfl, ⟨dy, tq, O2⟩, r⟩ | ⟨⟨t, ht, ty⟩, bd⟩
  · exact ⟨_, rfl, .ref q, .ref (gO K), _, _, true, rfl, .own _, ty_lot T O2.ob, kit_lot T, true, rfl, if_negB rfl (k q ms rfl ⟨dy, tq, O2⟩ r)⟩
  · exact ⟨_, rfl, v, .ref (gO K), _, _, false, rfl, .own _, ty, kit_bes T ht, false, rfl, if_posB rfl (mkb1 bd)⟩
abbrev scB_N : List Str := ["self", "other"]
theorem scOr : FnScope scB_N ["self", "other"] (defScope (lSt 10)) := ⟨rfl, rfl, rfl, by decide +kernel, rfl, by decide +kernel, by decide +kernel⟩
theorem scAn : FnScope scB_N ["self", "other"] (defScope (lSt 11)) := ⟨rfl, rfl, rfl, by decide +kernel, rfl, by decide +kernel, by decide +kernel⟩
theorem scSu : FnScope scB_N ["self", "other"] (defScope (lSt 12)) := ⟨rfl, rfl, rfl, by decide +kernel, rfl, by decide +kernel, by decide +kernel⟩
theorem scXo : FnScope scB_N ["self", "other"] (defScope (lSt 13)) := ⟨rfl, rfl, rfl, by decide +kernel, rfl, by decide +kernel, by decide +kernel⟩
theorem len2 {R : List Str → List Str → VK → XK → Hp → Prop} : ∀ vs H Q E, spBin K R vs H Q E → vs.length = (["self", "other"] : List Str).length := by
  rintro vs H Q E ⟨p, ns, v, rfl, _⟩
  rfl
theorem ok_or (T : KF P w K mg base) {fd : FuncData} (F : FunD K "__or__" "Lot.__or__" (defArgs (lSt 10)) (defBody (lSt 10)) (defScope (lSt 10)) [] [] (lAd K "__or__") fd) : FnOk P w K mg base (L2.CX P w) 7 (lAd K "__or__") fd ["self", "other"] (spBin K fun ns ms Q E H => ∀ H', Same H H' → LotR K E Q (ns ++ ms) H') := by
  obtain ⟨fo, Fo⟩ := T.fo
  have bo : L2.Binds K fo ["fixes"] [] := FunD.bindsN Fo fun _ _ _ _ _ _ us hl => match us, hl with | [_], _ => rfl
  have Go := Oo.FnOk.r0 (ok_of T Fo) bo
  refine F.ok scOr len2 (fun cdv A outer s H vs Q E hr h => ?_)
  obtain ⟨p, ns, v, rfl, ⟨dx, tp, O⟩, o⟩ := h
  refine ⟨_, pss_cons (ps_if (pt_not (pt_val (pe_callB call_isi (by rfl) (T.fr "isinstance" (by decide)) PyProof.Rows.boot_isinstance (pa_cons (pv 1) (pa_cons (pe_glob (v := .ref (gO K)) (by rfl) T.go rfl) pa_nil)))))
      (pss_one (ps_raise1 T.bl (hr.mono (by decide)) rfl (takes_of rfl rfl rfl rfl) (by rfl) pe_str)) pss_nil)
    (pss_one (ps_ret (Oo.pe_smeth (E := E) (pe_glob (v := .ref (gO K)) (by rfl) T.go rfl) (cread T) (smet T) Go hr (passes_call (takes_of rfl rfl rfl rfl) fun _ _ _ _ h => h)
      (pa_cons (pe_lst (StX.pa_star (pe_fld (pv 0) rfl) (StX.pa_star (pe_fld (pv 1) rfl) pa_nil))) pa_nil)))), ?_⟩
  refine two_read T o fun q ms ev l2 r => ?_
  subst ev
  obtain ⟨dy, tq, O2⟩ := l2
  have l1 := O.le
  have l2 := O2.le
  refine ⟨rfl, _, rfl, p, gO K, dx, _, _, rfl, O.ob, T.clo, T.noF, rfl, tp, _, rfl, .inl (SqT.of O.ps), _, rfl, q, gO K, dy, _, _, rfl, O2.ob, T.clo, T.noF, rfl, tq, _, rfl, .inl (SqT.of O2.ps), ?_, fun l nl => ?_⟩
  · rw [List.append_nil, List.length_append, List.length_map, List.length_map, sizeLine_eq]
    omega
  · rw [List.append_nil, ← List.map_append]
    refine ⟨_, rfl, .inl ⟨_, ⟨l, rfl, .inl upd_same⟩, fun H' s' => .good (by rw [List.length_append]; omega) (fun x hx => (List.mem_append.mp hx).elim (O.fx x) (O2.fx x)) fun H2 s2 => r H2 ((same_new nl).trans (s'.trans s2))⟩⟩
/-- and, minus -/
theorem ok_sel (T : KF P w K mg base) {fd : FuncData} {i : Nat} {m : Str} {b : Bool} (F : FunD K m ("Lot." ++ m) (defArgs (lSt i)) (defBody (lSt i)) (defScope (lSt i)) [] [] (lAd K m) fd) (sc : FnScope scB_N ["self", "other"] (defScope (lSt i)))
   (hcode : ∀ (cdv : Value) (A : Around) (outer : List Env) (s : Shared) (H : Hp) (E : XK), Room 7 (A.deeper (envOfC ("Lot." ++ m) (defScope (lSt i)) s.heap.objs.size (lAd K m) cdv)) →
     PSs (cxOf (L2.CX P w) P w K mg base scB_N ("Lot." ++ m) (defScope (lSt i)) (lAd K m) cdv A outer s H E) (defBody (lSt i)) (tSeq (tTwo K E) (tRet (tMeth (gO K) "sifted" (spSi K) [] E (tVar 0) (tCons (tVar 1) (tCons (tC (.bl b)) tNil)))))) :
   FnOk P w K mg base (L2.CX P w) 8 (lAd K m) fd ["self", "other"] (spBin K fun ns ms Q E H => ∀ H', Same H H' → NewL K Q (sift ns ms b) H') := by
  refine F.ok sc len2 (fun cdv A outer s H vs Q E hr h => ?_)
  obtain ⟨p, ns, v, rfl, ⟨dx, tp, O⟩, o⟩ := h
  refine ⟨_, hcode cdv A outer s H E hr, ?_⟩
  refine two_read T o fun q ms ev l2 r => ?_
  subst ev
  refine ⟨_, rfl, p, dx, _, rfl, O.ob, rfl, _, rfl, ?_⟩
  exact ⟨p, q, b, ns, ms, rfl, ⟨dx, tp, O⟩, l2, r H fun _ _ e => e⟩
theorem ok_an (T : KF P w K mg base) {fd : FuncData} (F : FunD K "__and__" "Lot.__and__" (defArgs (lSt 11)) (defBody (lSt 11)) (defScope (lSt 11)) [] [] (lAd K "__and__") fd) : FnOk P w K mg base (L2.CX P w) 8 (lAd K "__and__") fd ["self", "other"] (spBin K fun ns ms Q E H => ∀ H', Same H H' → NewL K Q (sift ns ms true) H') := by
  obtain ⟨_, fs, Fs⟩ := T.lot ("sifted", 18) (by decide)
  have bs : L2.Binds K fs ["self", "other", "is_in"] [] := FunD.bindsN Fs fun _ _ _ _ _ _ us hl => match us, hl with | [_, _, _], _ => rfl
  exact ok_sel T F scAn fun cdv A outer s H E hr => pss_cons (ps_if (pt_not (pt_val (pe_callB call_isi (by rfl) (T.fr "isinstance" (by decide)) PyProof.Rows.boot_isinstance (pa_cons (pv 1) (pa_cons (pe_glob (v := .ref (gO K)) (by rfl) T.go rfl) pa_nil)))))
      (pss_one (ps_raise1 T.bl (hr.mono (by decide)) rfl (takes_of rfl rfl rfl rfl) (by rfl) pe_str)) pss_nil)
    (pss_one (ps_ret (pe_meth (E := E) (pv 0) T.clo (lm T ("sifted", 18) (by decide)) (ok_si T Fs) hr bs .nil (passes_call (takes_of rfl rfl rfl rfl) fun _ _ _ _ h => h) (pa_cons (pv 1) (pa_cons pe_bl pa_nil)))))
theorem ok_su (T : KF P w K mg base) {fd : FuncData} (F : FunD K "__sub__" "Lot.__sub__" (defArgs (lSt 12)) (defBody (lSt 12)) (defScope (lSt 12)) [] [] (lAd K "__sub__") fd) : FnOk P w K mg base (L2.CX P w) 8 (lAd K "__sub__") fd ["self", "other"] (spBin K fun ns ms Q E H => ∀ H', Same H H' → NewL K Q (sift ns ms false) H') := by
  obtain ⟨_, fs, Fs⟩ := T.lot ("sifted", 18) (by decide)
  have bs : L2.Binds K fs ["self", "other", "is_in"] [] := FunD.bindsN Fs fun _ _ _ _ _ _ us hl => match us, hl with | [_, _, _], _ => rfl
  exact ok_sel T F scSu fun cdv A outer s H E hr => pss_cons (ps_if (pt_not (pt_val (pe_callB call_isi (by rfl) (T.fr "isinstance" (by decide)) PyProof.Rows.boot_isinstance (pa_cons (pv 1) (pa_cons (pe_glob (v := .ref (gO K)) (by rfl) T.go rfl) pa_nil)))))
      (pss_one (ps_raise1 T.bl (hr.mono (by decide)) rfl (takes_of rfl rfl rfl rfl) (by rfl) pe_str)) pss_nil)
    (pss_one (ps_ret (pe_meth (E := E) (pv 0) T.clo (lm T ("sifted", 18) (by decide)) (ok_si T Fs) hr bs .nil (passes_call (takes_of rfl rfl rfl rfl) fun _ _ _ _ h => h) (pa_cons (pv 1) (pa_cons pe_bl pa_nil)))))
end
end K6
set_option Elab.async false
set_option linter.all false
set_option maxRecDepth 100000
set_option maxHeartbeats 1000000
/-! Lot: xor, the orders. -/
namespace K6
open PySem PySem.Spec PyProof.Rows L2 RV EV He EF EI
section
variable {P : Program} {w : World} {K : PySem.W.Frag} {mg : Str → Option Value} {base : Heap}
theorem lackF (T : KF P w K mg base) {m : Str} (h : m ∈ lacks) : PySem.W.findIn K (.ref (gO K)) m = some none := by
  obtain ⟨_, z⟩ := ba T.l2
  exact eqO_ok (List.all_eq_true.mp (ba z).1 m h)
theorem besF (T : KF P w K mg base) : ∀ t ∈ Oo.kindsT, PySem.W.subIn K (.type t) (.ref (gO K)) = some false := fun t h => of_decide_eq_true (List.all_eq_true.mp (ba T.l2).1 t h)
theorem selfF (T : KF P w K mg base) : PySem.W.selfFirst K (gO K) = true := by
  obtain ⟨_, h⟩ := ba T.l1
  obtain ⟨_, h⟩ := ba h
  exact (ba h).1
theorem mroF (T : KF P w K mg base) : ((PySem.W.clsIn K (gO K)).any fun cd => decide (cd.mro = [.ref (gO K), .type "object"])) = true := by
  obtain ⟨_, h⟩ := ba T.l1
  obtain ⟨_, h⟩ := ba h
  obtain ⟨_, h⟩ := ba h
  exact (ba h).2
theorem noseqF (T : KF P w K mg base) : PySem.W.noSeq K (gO K) = true := by
  obtain ⟨_, h⟩ := ba T.l1
  obtain ⟨_, h⟩ := ba h
  obtain ⟨_, h⟩ := ba h
  exact (ba h).1
theorem objF (T : KF P w K mg base) : PySem.W.mroIn K (gO K) (.type "object") = some true := by
  obtain ⟨_, h⟩ := ba T.l1
  exact of_decide_eq_true (ba h).1
theorem neF (T : KF P w K mg base) : PySem.W.findIn K (.ref (gO K)) "__ne__" = some (some (.builtin "object.__ne__")) := by
  obtain ⟨_, z⟩ := ba T.l2
  exact eqO_ok (ba z).2
theorem opc (T : KF P w K mg base) {nm : String} {m : Str} {i : Nat} (hm : (m, i) ∈ lotN) (e1 : PySem.dunder nm = m) (h2 : dunderR nm ∈ lacks) (h3 : dunderI nm ∈ lacks) : Oo.OpC K (gO K) (lAd K m) nm :=
  ⟨e1 ▸ lm T (m, i) hm, selfF T, mroF T, lackF T h2, lackF T h3, besF T⟩
theorem opc_or (T : KF P w K mg base) : Oo.OpC K (gO K) (lAd K "__or__") "or" := opc T (i := 10) (by decide) (by decide +kernel) (by decide +kernel) (by decide +kernel)
theorem opc_an (T : KF P w K mg base) : Oo.OpC K (gO K) (lAd K "__and__") "and" := opc T (i := 11) (by decide) (by decide +kernel) (by decide +kernel) (by decide +kernel)
theorem opc_su (T : KF P w K mg base) : Oo.OpC K (gO K) (lAd K "__sub__") "sub" := opc T (i := 12) (by decide) (by decide +kernel) (by decide +kernel) (by decide +kernel)
theorem opc_xo (T : KF P w K mg base) : Oo.OpC K (gO K) (lAd K "__xor__") "xor" := opc T (i := 13) (by decide) (by decide +kernel) (by decide +kernel) (by decide +kernel)
theorem bind2 {m : Str} {i : Nat} {fd : FuncData} (F : FunD K m ("Lot." ++ m) (defArgs (lSt i)) (defBody (lSt i)) (defScope (lSt i)) [] [] (lAd K m) fd) (h : ∀ (dV kV doc pm an cdv ct : Value), True) : True := trivial
theorem ok_xo (T : KF P w K mg base) {fd : FuncData} (F : FunD K "__xor__" "Lot.__xor__" (defArgs (lSt 13)) (defBody (lSt 13)) (defScope (lSt 13)) [] [] (lAd K "__xor__") fd) :
   FnOk P w K mg base (L2.CX P w) 9 (lAd K "__xor__") fd ["self", "other"] (spBin K fun ns ms Q E H => ∀ H', Same H H' → LotR K E Q (sift ns ms false ++ sift ms ns false) H') := by
  obtain ⟨_, fs, Fs⟩ := T.lot ("sifted", 18) (by decide)
  have bs : L2.Binds K fs ["self", "other", "is_in"] [] := FunD.bindsN Fs fun _ _ _ _ _ _ us hl => match us, hl with | [_, _, _], _ => rfl
  obtain ⟨_, fr, Fr⟩ := T.lot ("__or__", 10) (by decide)
  have br : L2.Binds K fr ["self", "other"] [] := FunD.bindsN Fr fun _ _ _ _ _ _ us hl => match us, hl with | [_, _], _ => rfl
  have Gr := Oo.FnOk.r0 (ok_or T Fr) br
  refine F.ok scXo len2 (fun cdv A outer s H vs Q E hr h => ?_)
  obtain ⟨p, ns, v, rfl, ⟨dx, tp, O⟩, o⟩ := h
  refine ⟨_, pss_cons (ps_if (pt_not (pt_val (pe_callB call_isi (by rfl) (T.fr "isinstance" (by decide)) PyProof.Rows.boot_isinstance (pa_cons (pv 1) (pa_cons (pe_glob (v := .ref (gO K)) (by rfl) T.go rfl) pa_nil)))))
      (pss_one (ps_raise1 T.bl (hr.mono (by decide)) rfl (takes_of rfl rfl rfl rfl) (by rfl) pe_str)) pss_nil)
    (pss_one (ps_ret (pe_op (Oo.op_bin (E := E) (opc_or T) (by decide) Gr (hr.mono (by decide)) (passes_call (takes_of rfl rfl rfl rfl) fun _ _ _ _ h => h))
      (pe_meth (E := E) (pv 0) T.clo (lm T ("sifted", 18) (by decide)) (ok_si T Fs) (hr.mono (by decide)) bs .nil (passes_call (takes_of rfl rfl rfl rfl) fun _ _ _ _ h => h) (pa_cons (pv 1) (pa_cons pe_bl pa_nil)))
      (pe_meth (E := E) (pv 1) T.clo (lm T ("sifted", 18) (by decide)) (ok_si T Fs) (hr.mono (by decide)) bs .nil (passes_call (takes_of rfl rfl rfl rfl) fun _ _ _ _ h => h) (pa_cons (pv 0) (pa_cons pe_bl pa_nil)))))), ?_⟩
  refine two_read T o fun q ms ev l2 r => ?_
  subst ev
  refine ⟨_, rfl, p, dx, _, rfl, O.ob, rfl, _, rfl, ?_⟩
  refine ⟨p, q, false, ns, ms, rfl, ⟨dx, tp, O⟩, l2, fun H1 a da ta s1 oa => ?_⟩
  obtain ⟨dy, tq, O2⟩ := l2
  have O2' := O2.same s1
  refine ⟨_, rfl, q, dy, _, rfl, O2'.ob, rfl, _, rfl, ?_⟩
  refine ⟨q, p, false, ms, ns, rfl, ⟨dy, tq, O2'⟩, ⟨dx, tp, O.same s1⟩, fun H2 b db tb s2 ob => ?_⟩
  have oa' := oa.same s2
  refine ⟨a, da, _, _, rfl, oa'.ob, ty_lot T ob.ob, .inl rfl, a, _, .ref b, rfl, ⟨da, ta, oa'⟩, .inl ⟨b, _, rfl, ⟨db, tb, ob⟩, fun H3 s3 => r H3 ((s1.trans s2).trans s3)⟩⟩
/-! <= and >= -/
theorem scLe : FnScope ["self", "other", "fix"] ["self", "other"] (defScope (lSt 14)) := ⟨rfl, rfl, rfl, by decide +kernel, rfl, by decide +kernel, by decide +kernel⟩
theorem scGe : FnScope ["self", "other", "fix"] ["self", "other"] (defScope (lSt 15)) := ⟨rfl, rfl, rfl, by decide +kernel, rfl, by decide +kernel, by decide +kernel⟩
def allIn (ns ms : List Str) : Bool := ns.all fun x => decide (x ∈ ms)
abbrev teIn (K : PySem.W.Frag) (j : Nat) : TE := tOp (rIn K false) (tVar 2) (tFld K (tVar j) "fixes")
abbrev tAll (K : PySem.W.Frag) (i j : Nat) : TE := tCB (rAll K) (tCons (tLc (iTup K (tFld K (tVar i) "fixes")) (gName 2) tYes (teIn K j) [2]) tNil)
theorem all_read (T : KF P w K mg base) {i j : Nat} {σ : L2.St} {p q dx tp dy tq : Addr} {ns ms : List Str} {H : Hp} {Q : VK} (hi : σ[i]? = some (some (.ref p))) (hw : ∀ v, wipe ((wipe σ [2]).set 2 v) [2] = wipe σ [2]) (h2 : ∀ v, ((wipe σ [2]).set 2 (some v))[2]? = some (some v)) (hj : ∀ v, ((wipe σ [2]).set 2 (some v))[j]? = some (some (.ref q)))
    (O : LO K H p dx tp ns) (O2 : LO K H q dy tq ms) (k : ∀ H', Same H H' → Q (.bl (allIn ns ms)) H') : tAll K i j σ H Q := by
  refine ⟨_, hi, p, gO K, dx, _, _, rfl, O.ob, T.clo, T.noF, rfl, tp, rfl, ⟨_, SqT.of O.ps⟩, fun D nD => ?_⟩
  refine lc_it (walk_tup (xs := ns.map V.str)) (fun i H' => Same H H' ∧ H' D = some (.lst (((ns.take i).map fun x => decide (x ∈ ms)).map V.bl))) ⟨fun c u e => by rw [upd_ne (ne_of_none e nD)]; exact e, upd_same⟩ (fun i H' _ z => SqT.of (z.1 _ _ O.ps)) ?_ ?_
  · rintro i x H1 H2 hi ⟨s1, hD⟩ ⟨rfl, hx⟩
    rw [List.getElem?_map] at hx
    cases e : ns[i]? with
    | none => rw [e] at hx; exact nomatch hx
    | some z =>
      rw [e] at hx
      obtain rfl : V.str z = x := Option.some.inj hx
      obtain ⟨hl, hv⟩ := List.getElem?_eq_some_iff.mp e
      have O2' := O2.same s1
      have more : ns.take (i + 1) = ns.take i ++ [z] := by rw [← hv]; exact List.take_succ_eq_append_getElem hl
      have le8 := O.le
      refine ⟨hw _, yesB ⟨_, h2 _, _, hj _, q, gO K, dy, _, _, rfl, O2'.ob, T.clo, T.noF, rfl, tq, _, rfl, .inr (SqT.of O2'.ps), rfl, flat_strs ms, _, hD, ?_, fun c u e2 => ?_, ?_⟩⟩
      · rw [List.length_map, List.length_map, List.length_take, sizeLine_eq]
        omega
      · rw [upd_ne (ne_of_none e2 nD)]
        exact s1 c u e2
      · rw [upd_same, more, List.map_append, List.map_append]
        show some (HO.lst (_ ++ [V.bl (inV (.str z) (ms.map V.str))])) = _
        rw [inV_str]
        rfl
  · rintro H1 ⟨s1, hD⟩
    rw [List.length_map, List.take_of_length_le (Nat.le_refl _)] at hD
    refine ⟨D, _, rfl, SqL.of hD, ?_⟩
    have e : (ns.map fun x => decide (x ∈ ms)).all id = allIn ns ms := by
      unfold allIn
      rw [List.all_map]
      rfl
    rw [e]
    exact k H1 s1
end
end K6
set_option Elab.async false
set_option linter.all false
set_option maxRecDepth 100000
set_option maxHeartbeats 1000000
namespace K6
open PySem PySem.Spec PyProof.Rows L2 RV EV He EF EI
section
variable {P : Program} {w : World} {K : PySem.W.Frag} {mg : Str → Option Value} {base : Heap}
abbrev RLe : List Str → List Str → VK → XK → Hp → Prop := fun ns ms Q E H => ∀ H', Same H H' → Q (.bl (allIn ns ms)) H'
abbrev RGe : List Str → List Str → VK → XK → Hp → Prop := fun ns ms Q E H => ∀ H', Same H H' → Q (.bl (allIn ms ns)) H'
abbrev RLt : List Str → List Str → VK → XK → Hp → Prop := fun ns ms Q E H => ∀ H', Same H H' → Q (.bl (allIn ns ms && !decide (ns = ms))) H'
abbrev RGt : List Str → List Str → VK → XK → Hp → Prop := fun ns ms Q E H => ∀ H', Same H H' → Q (.bl (allIn ms ns && !decide (ns = ms))) H'
abbrev scL_N : List Str := ["self", "other", "fix"]
theorem ok_le (T : KF P w K mg base) {fd : FuncData} (F : FunD K "__le__" "Lot.__le__" (defArgs (lSt 14)) (defBody (lSt 14)) (defScope (lSt 14)) [] [] (lAd K "__le__") fd) : FnOk P w K mg base (L2.CX P w) 4 (lAd K "__le__") fd ["self", "other"] (spBin K RLe) := by
  refine F.ok scLe len2 (fun cdv A outer s H vs Q E hr h => ?_)
  obtain ⟨p, ns, v, rfl, ⟨dx, tp, O⟩, o⟩ := h
  refine ⟨_, pss_cons (ps_if (pt_not (pt_val (pe_callB call_isi (by rfl) (T.fr "isinstance" (by decide)) PyProof.Rows.boot_isinstance (pa_cons (pv 1) (pa_cons (pe_glob (v := .ref (gO K)) (by rfl) T.go rfl) pa_nil)))))
      (pss_one (ps_raise1 T.bl (hr.mono (by decide)) rfl (takes_of rfl rfl rfl rfl) (by rfl) pe_str)) pss_nil)
    (pss_one (ps_ret (pe_callB (cr_all rfl) (by rfl) (T.fr "all" (by decide)) PyProof.Rows.boot_all (pa_cons (pe_lc (own := [("fix", 2)]) (g := gName 2) (tt := tYes) (te := teIn K 1) rfl scLe.nd (pi_tup (pe_fld (pv 0) rfl)) (blkOk_by (N := scL_N) (sc := defScope (lSt 14)) (by decide +kernel))
      (fun _ _ _ _ _ => pg_name (i := 2) scLe.nd rfl (.inl rfl)) (fun _ _ _ _ _ => pts_nil) (fun _ _ _ _ _ => pe_cmpR op_in_seq (pv 2) (pe_fld (pv 1) rfl) rfl)) pa_nil)))), ?_⟩
  rcases o with ⟨q, ms, rfl, l2, r⟩ | o
  · refine ⟨_, rfl, .ref q, .ref (gO K), _, _, true, rfl, .own _, ty_lot T l2.choose_spec.choose_spec.ob, kit_lot T, true, rfl, if_negB rfl ?_⟩
    obtain ⟨dy, tq, O2⟩ := l2
    exact all_read T (i := 0) (j := 1) (σ := [some (.ref p), some (.ref q), none]) rfl (fun _ => rfl) (fun _ => rfl) (fun _ => rfl) O O2 fun H' s' => r H' s'
  · obtain ⟨⟨t, ht, ty⟩, bd⟩ := o
    exact ⟨_, rfl, v, .ref (gO K), _, _, false, rfl, .own _, ty, kit_bes T ht, false, rfl, if_posB rfl (mkb1 bd)⟩
theorem ok_ge (T : KF P w K mg base) {fd : FuncData} (F : FunD K "__ge__" "Lot.__ge__" (defArgs (lSt 15)) (defBody (lSt 15)) (defScope (lSt 15)) [] [] (lAd K "__ge__") fd) : FnOk P w K mg base (L2.CX P w) 4 (lAd K "__ge__") fd ["self", "other"] (spBin K RGe) := by
  refine F.ok scGe len2 (fun cdv A outer s H vs Q E hr h => ?_)
  obtain ⟨p, ns, v, rfl, ⟨dx, tp, O⟩, o⟩ := h
  refine ⟨_, pss_cons (ps_if (pt_not (pt_val (pe_callB call_isi (by rfl) (T.fr "isinstance" (by decide)) PyProof.Rows.boot_isinstance (pa_cons (pv 1) (pa_cons (pe_glob (v := .ref (gO K)) (by rfl) T.go rfl) pa_nil)))))
      (pss_one (ps_raise1 T.bl (hr.mono (by decide)) rfl (takes_of rfl rfl rfl rfl) (by rfl) pe_str)) pss_nil)
    (pss_one (ps_ret (pe_callB (cr_all rfl) (by rfl) (T.fr "all" (by decide)) PyProof.Rows.boot_all (pa_cons (pe_lc (own := [("fix", 2)]) (g := gName 2) (tt := tYes) (te := teIn K 0) rfl scGe.nd (pi_tup (pe_fld (pv 1) rfl)) (blkOk_by (N := scL_N) (sc := defScope (lSt 15)) (by decide +kernel))
      (fun _ _ _ _ _ => pg_name (i := 2) scGe.nd rfl (.inl rfl)) (fun _ _ _ _ _ => pts_nil) (fun _ _ _ _ _ => pe_cmpR op_in_seq (pv 2) (pe_fld (pv 0) rfl) rfl)) pa_nil)))), ?_⟩
  rcases o with ⟨q, ms, rfl, l2, r⟩ | o
  · refine ⟨_, rfl, .ref q, .ref (gO K), _, _, true, rfl, .own _, ty_lot T l2.choose_spec.choose_spec.ob, kit_lot T, true, rfl, if_negB rfl ?_⟩
    obtain ⟨dy, tq, O2⟩ := l2
    exact all_read T (i := 1) (j := 0) (σ := [some (.ref p), some (.ref q), none]) rfl (fun _ => rfl) (fun _ => rfl) (fun _ => rfl) O2 O fun H' s' => r H' s'
  · obtain ⟨⟨t, ht, ty⟩, bd⟩ := o
    exact ⟨_, rfl, v, .ref (gO K), _, _, false, rfl, .own _, ty, kit_bes T ht, false, rfl, if_posB rfl (mkb1 bd)⟩
theorem scLt : FnScope scB_N ["self", "other"] (defScope (lSt 16)) := ⟨rfl, rfl, rfl, by decide +kernel, rfl, by decide +kernel, by decide +kernel⟩
theorem scGT : FnScope scB_N ["self", "other"] (defScope (lSt 17)) := ⟨rfl, rfl, rfl, by decide +kernel, rfl, by decide +kernel, by decide +kernel⟩
theorem first_lot : PySem.W.notFirst K (gO K) (.ref (gO K)) = true := by
  unfold PySem.W.notFirst
  simp
theorem first_bes (T : KF P w K mg base) {t : String} (h : t ∈ besT) : PySem.W.notFirst K (gO K) (.type t) = true := by
  unfold PySem.W.notFirst
  rw [besF T t h]
  simp
/-- the two orders that ask an other one first -/
theorem ord_read (T : KF P w K mg base) {R : List Str → List Str → VK → XK → Hp → Prop} {p dx tp : Addr} {ns : List Str} {v : V} {H : Hp} {E : XK} {Q : VK} {g : List Str → List Str → Bool} (O : LO K H p dx tp ns)
    (hR : ∀ ns ms Q E H, (∀ H', Same H H' → Q (.bl (g ns ms)) H') → R ns ms Q E H) (o : Other K H E v fun _ ms H' => ∀ H'', Same H' H'' → Q (.bl (g ns ms && !decide (ns = ms))) H'') :
    tRet (tAndV (tOp (Oo.rOwn2 K (gO K) (fun t => PySem.W.notFirst K (gO K) t = true) (spBin K R) E) (tVar 0) (tVar 1)) (tOp (rNeD K) (tFld K (tVar 0) "fixes") (tFld K (tVar 1) "fixes"))) { nx := fun _ H' => Q .non H', rt := Q } [some (.ref p), some v] H := by
  rcases o with ⟨q, ms, rfl, ⟨dy, tq, O2⟩, r⟩ | ⟨⟨t, ht, ty⟩, bd⟩
  · refine ⟨_, rfl, _, rfl, p, dx, _, _, rfl, O.ob, ty_lot T O2.ob, first_lot, p, ns, _, rfl, ⟨dx, tp, O⟩, .inl ⟨q, ms, rfl, ⟨dy, tq, O2⟩, hR _ _ _ _ _ fun H' s' => ⟨_, rfl, ?_⟩⟩⟩
    have O1 := O.same s'
    have O2' := O2.same s'
    have r' := r H' s'
    cases e : g ns ms with
    | true =>
      rw [e, Bool.true_and] at r'
      refine if_posB rfl ⟨_, rfl, p, gO K, dx, _, _, rfl, O1.ob, T.clo, T.noF, rfl, _, rfl, q, gO K, dy, _, _, rfl, O2'.ob, T.clo, T.noF, rfl, neT (SqT.of O1.ps) (SqT.of O2'.ps) (fx_ok O1) (fx_ok O2') r'⟩
    | false =>
      rw [e, Bool.false_and] at r'
      exact if_negB rfl r'
  · exact ⟨_, rfl, _, rfl, p, dx, _, _, rfl, O.ob, ty, first_bes T ht, p, ns, _, rfl, ⟨dx, tp, O⟩, .inr ⟨⟨t, ht, ty⟩, bd⟩⟩
theorem ok_lt (T : KF P w K mg base) {fd : FuncData} (F : FunD K "__lt__" "Lot.__lt__" (defArgs (lSt 16)) (defBody (lSt 16)) (defScope (lSt 16)) [] [] (lAd K "__lt__") fd) : FnOk P w K mg base (L2.CX P w) 5 (lAd K "__lt__") fd ["self", "other"] (spBin K RLt) := by
  obtain ⟨_, fl, Fl⟩ := T.lot ("__le__", 14) (by decide)
  have bl : L2.Binds K fl ["self", "other"] [] := FunD.bindsN Fl fun _ _ _ _ _ _ us hl => match us, hl with | [_, _], _ => rfl
  refine F.ok scLt len2 (fun cdv A outer s H vs Q E hr h => ?_)
  obtain ⟨p, ns, v, rfl, ⟨dx, tp, O⟩, o⟩ := h
  refine ⟨_, pss_one (ps_ret (pe_and (pe_cmpR (Oo.op_cmpO (E := E) (op := .LtE) (fun _ _ => rfl) (lm T ("__le__", 14) (by decide)) (Oo.FnOk.r0 (ok_le T Fl) bl) hr (passes_call (takes_of rfl rfl rfl rfl) fun _ _ _ _ h => h)) (pv 0) (pv 1) (nomark _))
    (pe_one (pe_cmpR (op_neD hr.units) (pe_fld (pv 0) rfl) (pe_fld (pv 1) rfl) (nomark _))))), ?_⟩
  exact ord_read T (R := RLe) (g := fun ns ms => allIn ns ms) O (fun _ _ _ _ _ h => h) o
theorem ok_gt (T : KF P w K mg base) {fd : FuncData} (F : FunD K "__gt__" "Lot.__gt__" (defArgs (lSt 17)) (defBody (lSt 17)) (defScope (lSt 17)) [] [] (lAd K "__gt__") fd) : FnOk P w K mg base (L2.CX P w) 5 (lAd K "__gt__") fd ["self", "other"] (spBin K RGt) := by
  obtain ⟨_, fl, Fl⟩ := T.lot ("__ge__", 15) (by decide)
  have bl : L2.Binds K fl ["self", "other"] [] := FunD.bindsN Fl fun _ _ _ _ _ _ us hl => match us, hl with | [_, _], _ => rfl
  refine F.ok scGT len2 (fun cdv A outer s H vs Q E hr h => ?_)
  obtain ⟨p, ns, v, rfl, ⟨dx, tp, O⟩, o⟩ := h
  refine ⟨_, pss_one (ps_ret (pe_and (pe_cmpR (Oo.op_cmpO (E := E) (op := .GtE) (fun _ _ => rfl) (lm T ("__ge__", 15) (by decide)) (Oo.FnOk.r0 (ok_ge T Fl) bl) hr (passes_call (takes_of rfl rfl rfl rfl) fun _ _ _ _ h => h)) (pv 0) (pv 1) (nomark _))
    (pe_one (pe_cmpR (op_neD hr.units) (pe_fld (pv 0) rfl) (pe_fld (pv 1) rfl) (nomark _))))), ?_⟩
  exact ord_read T (R := RGe) (g := fun ns ms => allIn ms ns) O (fun _ _ _ _ _ h => h) o
end
end K6
set_option Elab.async false
set_option linter.all false
set_option maxRecDepth 100000
set_option maxHeartbeats 1000000
/-! is_integer, is_within. -/
namespace K6
open PySem PySem.Spec PyProof.Rows L2 RV
abbrev sInt : Stmt := top 2
abbrev sWithin : Stmt := top 3
def spIsInt (K : PySem.W.Frag) : Sp := fun vs H Q _ => ∃ v t bi bb, vs = [v] ∧ TyX K H v (.type t) ∧ kitB t "int" = some bi ∧ kitB t "bool" = some bb ∧ Q (.bl (bi && !bb)) H
def spWithin (K : PySem.W.Frag) : Sp := fun vs H Q _ => ∃ v t bi bb lo hi, vs = [v, .int lo, .int hi] ∧ TyX K H v (.type t) ∧ kitB t "int" = some bi ∧ kitB t "bool" = some bb ∧
  (((bi && !bb) = false ∧ Q (.bl false) H) ∨ ((bi && !bb) = true ∧ ∃ i, v = .int i ∧ Q (.bl (decide (lo ≤ i) && decide (i ≤ hi))) H))
section
variable {P : Program} {w : World} {K : PySem.W.Frag} {mg : Str → Option Value} {base : Heap} {f fI : Addr} {fd fdI : FuncData}
theorem scInt : FnScope ["value"] ["value"] (defScope sInt) := ⟨rfl, rfl, rfl, by decide +kernel, rfl, by decide +kernel, by decide +kernel⟩
theorem ok_isInt (F : FnP K "is_integer" sInt f fd) (T : Blt2 mg) : FnOk P w K mg base CX0 1 f fd ["value"] (spIsInt K) := by
  refine F.ok scInt (fun vs H Q E h => ?_) (fun cdv A outer s H vs Q E hr h => ?_)
  · obtain ⟨v, t, bi, bb, rfl, _⟩ := h
    rfl
  · obtain ⟨v, t, bi, bb, rfl, ht, h1, h2, k⟩ := h
    refine ⟨_, PSs.nox (pss_one (ps_ret (pe_and (pe_callB call_isi (by rfl) T.isi PyProof.Rows.boot_isinstance (pa_cons (pv 0) (pa_cons (pe_bltn (v := .ty "int") (by rfl) T.int boot_int rfl) pa_nil)))
      (pe_one (pe_not (pe_callB call_isi (by rfl) T.isi PyProof.Rows.boot_isinstance (pa_cons (pv 0) (pa_cons (pe_bltn (v := .ty "bool") (by rfl) T.bool boot_T rfl) pa_nil)))))))), ?_⟩
    refine ⟨v, rfl, v, .ty "int", _, _, bi, rfl, .ty _, ht, kit_ty h1, bi, rfl, ?_⟩
    cases bi with
    | true => exact if_posB rfl ⟨v, rfl, v, .ty "bool", _, _, bb, rfl, .ty _, ht, kit_ty h2, bb, rfl, by simpa using k⟩
    | false => exact if_negB rfl (by simpa using k)
theorem scWithin : FnScope ["value", "least", "most"] ["value", "least", "most"] (defScope sWithin) := ⟨rfl, rfl, rfl, by decide +kernel, rfl, by decide +kernel, by decide +kernel⟩
theorem ok_within (F : FnP K "is_within" sWithin f fd) (T : Blt2 mg) (FI : FnP K "is_integer" sInt fI fdI) (gI : mg "is_integer" = some (.ref fI)) : FnOk P w K mg base CX0 2 f fd ["value", "least", "most"] (spWithin K) := by
  have GI : FnOk P w K mg base CX0 1 fI fdI ["value"] (spIsInt K) := ok_isInt FI T
  have bI : L2.Binds K fdI ["value"] [] := FI.bindsN fun _ _ _ _ _ _ us hl => match us, hl with | [_], _ => rfl
  refine F.ok scWithin (fun vs H Q E h => ?_) (fun cdv A outer s H vs Q E hr h => ?_)
  · obtain ⟨v, t, bi, bb, lo, hi, rfl, _⟩ := h
    rfl
  · obtain ⟨v, t, bi, bb, lo, hi, rfl, ht, h1, h2, k⟩ := h
    refine ⟨_, PSs.nox (pss_one (ps_ret (pe_and (pe_call GI hr (by rfl) gI FI.kp bI .nil pass0 (pa_cons (pv 0) pa_nil)) (pe_one (pe_chain op_le op_le (pv 1) (pv 0) (pv 2)))))), ?_⟩
    refine ⟨v, rfl, v, t, bi, bb, rfl, ht, h1, h2, (bi && !bb), rfl, ?_⟩
    rcases k with ⟨e, k⟩ | ⟨e, i, rfl, k⟩
    · rw [e]
      exact if_negB rfl k
    · rw [e]
      refine if_posB rfl ⟨_, rfl, _, rfl, lo, i, rfl, rfl, _, rfl, ?_⟩
      by_cases hle : lo ≤ i
      · refine if_posB (decide_eq_true hle) ⟨_, rfl, i, hi, rfl, rfl, ?_⟩
        rw [decide_eq_true hle] at k
        simpa using k
      · refine if_negB (decide_eq_false hle) ?_
        rw [decide_eq_false hle] at k
        simpa using k
end
end K6
set_option Elab.async false
set_option linter.all false
set_option maxRecDepth 100000
set_option maxHeartbeats 1000000
/-! -x by an own __neg__; bool(x) by an own __bool__. -/
namespace Oo
open PySem PySem.Spec PyProof.Rows L2 PySem.W
section
variable {X : Cx} {CX : CXT} {k : Nat} {C f : Addr} {sp : Sp} {E : XK}
def rNegO (C : Addr) (sp : Sp) (E : XK) : V → Hp → VK → Prop := fun x H Q => ∃ a dx fs, x = .ref a ∧ H a = some (.ins C dx fs) ∧ sp [.ref a] H Q E
theorem un_negO (hm : Meth X.K C "__neg__" f) (F : FnR X.prog X.w X.K X.mg X.base CX k f sp) (hr : Room k X.A) (hx : Passes CX X E) : UnR X (unaryOp .USub) (rNegO C sp E) := by
  intro pins s σ H x v Q I rx h
  obtain ⟨a, dx, fs, rfl, ea, q⟩ := h
  obtain rfl : v = Value.ref a := rx
  obtain ⟨mA, O, _⟩ := ins_get I.hok ea
  obtain ⟨od, J, _⟩ := O.look
  obtain ⟨m, hF⟩ := I.fr
  exact PySem.W.ksp_neg hF I.ok.mod.kin J hm.at_ hm.fn (thn (wpAny_call (run_fnR (us := [.ref a]) (vs := [.ref a]) F hr hx I (.cons rfl .nil) q)) fun z s' hz => hz)
end
end Oo
set_option Elab.async false
set_option linter.all false
set_option maxRecDepth 100000
set_option maxHeartbeats 1000000
/-! Number, Release, kept_value. -/
namespace K6
open PySem PySem.Spec PyProof.Rows L2 RV EV He EF EI
section
variable {P : Program} {w : World} {K : PySem.W.Frag} {mg : Str → Option Value} {base : Heap}
abbrev Callee (P : Program) (w : World) (K : PySem.W.Frag) (mg : Str → Option Value) (base : Heap) (CX : CXT) (k : Nat) (x : Str) (ps : List Str) (sp : Sp) : Prop :=
  ∃ fd, FnOk P w K mg base CX k (ga K x) fd ps sp ∧ L2.Binds K fd ps [] ∧ PySem.W.keepIn K (.ref (ga K x)) = true ∧ mg x = some (.ref (ga K x))
theorem c_within (T : KF P w K mg base) : Callee P w K mg base CX0 2 "is_within" ["value", "least", "most"] (spWithin K) := by
  obtain ⟨fd, F, g⟩ := T.tops ("is_within", 3) (by decide)
  obtain ⟨fI, FI, gI⟩ := T.tops ("is_integer", 2) (by decide)
  exact ⟨fd, ok_within F (blt2 T) FI gI, FunD.bindsN F fun _ _ _ _ _ _ us hl => match us, hl with | [_, _, _], _ => rfl, F.kp, g⟩
/-! Number.__init__ -/
def spNuI (K : PySem.W.Frag) : Sp := fun vs H Q _ => ∃ p dx line at_, vs = [.ref p, .int line, .int at_] ∧ H p = some (.ins (gNu K) dx []) ∧ 1 ≤ line ∧ line ≤ 6 ∧ 0 ≤ at_ ∧ at_ ≤ 59 ∧
  ∀ H', Same2 H H' p → H' p = some (.ins (gNu K) dx [("line", .int line), ("at", .int at_)]) → Q .non H'
abbrev uSt : Stmt := inClass (top 32) 0
theorem scNuI : FnScope ["self", "line", "at"] ["self", "line", "at"] (defScope uSt) := ⟨rfl, rfl, rfl, by decide +kernel, rfl, by decide +kernel, by decide +kernel⟩
theorem ok_nuI (T : KF P w K mg base) {fd : FuncData} (F : FunD K "__init__" "Number.__init__" (defArgs uSt) (defBody uSt) (defScope uSt) [] [] (ma K (gNu K) "__init__") fd) : FnOk P w K mg base (L2.CX P w) 3 (ma K (gNu K) "__init__") fd ["self", "line", "at"] (spNuI K) := by
  obtain ⟨fw, Gw, bw, kw, gw⟩ := c_within (w := w) T
  obtain ⟨tL, iL⟩ := T.iL
  obtain ⟨tR, iR⟩ := T.iR
  refine F.ok scNuI (fun vs H Q E h => ?_) (fun cdv A outer s H vs Q E hr h => ?_)
  · obtain ⟨p, dx, line, at_, rfl, _⟩ := h
    rfl
  · obtain ⟨p, dx, line, at_, rfl, hp, l1, l2, a1, a2, k⟩ := h
    refine ⟨_, pss_cons (ps_if (pt_not (pt_val (pe_call (E := E0) Gw hr (by rfl) gw kw bw .nil pass0 (pa_cons (pv 1) (pa_cons pe_int (pa_cons (pe_glob (v := .int 6) (by rfl) iL ⟨_, rfl⟩) pa_nil))))))
        (pss_one (ps_raise1 T.bnu (hr.mono (by decide)) rfl (takes_of rfl rfl rfl rfl) (by rfl) (pv 1))) pss_nil)
      (pss_cons (ps_if (pt_not (pt_val (pe_call (E := E0) Gw hr (by rfl) gw kw bw .nil pass0 (pa_cons (pv 2) (pa_cons pe_int (pa_cons (pe_op op_sub (pe_glob (v := .int 60) (by rfl) iR ⟨_, rfl⟩) pe_int) pa_nil))))))
        (pss_one (ps_raise1 T.bnu (hr.mono (by decide)) rfl (takes_of rfl rfl rfl rfl) (by rfl) (pv 2))) pss_nil)
      (pss_cons (ps_fld (pv 0) (pv 1) rfl) (pss_one (ps_fld (pv 0) (pv 2) rfl)))), ?_⟩
    obtain ⟨gl, clN, mkN⟩ := T.gk ("Number", 32) (by decide)
    refine ⟨_, rfl, .int line, "int", true, false, 1, 6, rfl, .base (.int line), by decide +kernel, by decide +kernel, .inr ⟨rfl, line, rfl, _, rfl, if_negB ?_ ?_⟩⟩
    · rw [decide_eq_true l1, decide_eq_true l2]
      rfl
    refine ⟨_, rfl, 60, 1, rfl, rfl, .int at_, "int", true, false, 0, 59, rfl, .base (.int at_), by decide +kernel, by decide +kernel, .inr ⟨rfl, at_, rfl, _, rfl, if_negB ?_ ?_⟩⟩
    · rw [decide_eq_true a1, decide_eq_true a2]
      rfl
    refine ⟨_, rfl, _, rfl, p, gNu K, dx, _, rfl, hp, clN, T.noLi, by show 0 < 1000; decide, ?_⟩
    refine ⟨_, rfl, _, rfl, p, gNu K, dx, _, rfl, upd_same, clN, T.noAt, by show 1 < 1000; decide, ?_⟩
    refine k _ (fun c o hc e => ?_) (by rw [upd_same]; rfl)
    rw [upd_ne hc, upd_ne hc]
    exact e
/-! kept_value -/
abbrev sOpen : Stmt := top 27
abbrev sKept : Stmt := top 28
theorem scOp : FnScope ["value", "part"] ["value"] (defScope sOpen) := ⟨rfl, rfl, rfl, by decide +kernel, rfl, by decide +kernel, by decide +kernel⟩
def spOpen (K : PySem.W.Frag) : Sp := fun vs H Q _ => ∃ v t, vs = [v] ∧ (∀ H', Same H H' → TyX K H' v t) ∧ PySem.W.kitOne K t (.type "tuple") = some false ∧ PySem.W.kitAny K t [.type "list", .type "dict"] = some false ∧ ∀ H', Same H H' → Q (.bl false) H'
theorem ok_open (T : KF P w K mg base) {f : Addr} {fd : FuncData} (F : FnP K "is_open_to_change" sOpen f fd) : FnOk P w K mg base CX0 1 f fd ["value"] (spOpen K) := by
  refine F.ok scOp (fun vs H Q E h => ?_) (fun cdv A outer s H vs Q E hr h => ?_)
  · obtain ⟨v, t, rfl, _⟩ := h
    rfl
  · obtain ⟨v, t, rfl, ty, kt, kl, k⟩ := h
    refine ⟨_, PSs.nox (pss_cons (ps_if (pt_val (pe_callB call_isi (by rfl) (T.fr "isinstance" (by decide)) PyProof.Rows.boot_isinstance (pa_cons (pv 0) (pa_cons (pe_bltn (v := .ty "tuple") (by rfl) (T.fr "tuple" (by decide)) boot_T rfl) pa_nil))))
        (pss_one ps_never) pss_nil)
      (pss_one (ps_ret (pe_callB call_isiT (by rfl) (T.fr "isinstance" (by decide)) PyProof.Rows.boot_isinstance (pa_cons (pv 0) (pa_cons (pe_tup (pa_cons (pe_bltn (v := .ty "list") (by rfl) (T.fr "list" (by decide)) boot_T rfl) (pa_cons (pe_bltn (v := .ty "dict") (by rfl) (T.fr "dict" (by decide)) boot_T rfl) pa_nil))) pa_nil)))))), ?_⟩
    refine ⟨v, rfl, v, .ty "tuple", _, _, false, rfl, .ty _, ty H (fun _ _ e => e), kt, false, rfl, if_negB rfl ?_⟩
    refine ⟨v, rfl, by show 2 ≤ sizeLine; rw [sizeLine_eq]; decide, fun tp ntp => ⟨v, tp, _, t, _, false, rfl, upd_same, .cons (.ty _) (.cons (.ty _) .nil), ty _ (same_new ntp), kl, k _ (same_new ntp)⟩⟩
theorem c_open (T : KF P w K mg base) : Callee P w K mg base CX0 1 "is_open_to_change" ["value"] (spOpen K) := by
  obtain ⟨fd, F, g⟩ := T.tops ("is_open_to_change", 27) (by decide)
  exact ⟨fd, ok_open T F, FunD.bindsN F fun _ _ _ _ _ _ us hl => match us, hl with | [_], _ => rfl, F.kp, g⟩
def spKept (K : PySem.W.Frag) : Sp := fun vs H Q _ => ∃ v t, vs = [v] ∧ (∀ H', Same H H' → TyX K H' v t) ∧ PySem.W.kitOne K t (.type "tuple") = some false ∧ PySem.W.kitAny K t [.type "list", .type "dict"] = some false ∧ ∀ H', Same H H' → Q v H'
theorem scKe : FnScope ["value", "parts"] ["value"] (defScope sKept) := ⟨rfl, rfl, rfl, by decide +kernel, rfl, by decide +kernel, by decide +kernel⟩
theorem ok_kept (T : KF P w K mg base) {f : Addr} {fd : FuncData} (F : FnP K "kept_value" sKept f fd) : FnOk P w K mg base CX0 2 f fd ["value"] (spKept K) := by
  obtain ⟨fo, Go, bo, ko, go⟩ := c_open (w := w) T
  refine F.ok scKe (fun vs H Q E h => ?_) (fun cdv A outer s H vs Q E hr h => ?_)
  · obtain ⟨v, t, rfl, _⟩ := h
    rfl
  · obtain ⟨v, t, rfl, ty, kt, kl, k⟩ := h
    refine ⟨_, PSs.nox (pss_cons (ps_if (pt_not (pt_val (pe_call (E := E0) Go hr (by rfl) go ko bo .nil pass0 (pa_cons (pv 0) pa_nil)))) (pss_one (ps_ret (pv 0))) pss_nil)
      (pss_cons ps_never (pss_cons ps_never (pss_one ps_never)))), ?_⟩
    exact ⟨v, rfl, v, t, rfl, ty, kt, kl, fun H' s' => ⟨false, rfl, if_posB rfl ⟨v, rfl, k H' s'⟩⟩⟩
theorem c_kept (T : KF P w K mg base) : Callee P w K mg base CX0 2 "kept_value" ["value"] (spKept K) := by
  obtain ⟨fd, F, g⟩ := T.tops ("kept_value", 28) (by decide)
  exact ⟨fd, ok_kept T F, FunD.bindsN F fun _ _ _ _ _ _ us hl => match us, hl with | [_], _ => rfl, F.kp, g⟩
/-! what relB says -/
theorem rB (T : KF P w K mg base) : noteB K = true ∧ kitsB K = true ∧ objB1 K (gNu K) = true ∧ objB1 K (gRe K) = true := by
  have z : relB K = true := T.relb
  unfold relB at z
  obtain ⟨z1, z⟩ := ba z
  obtain ⟨z2, z⟩ := ba z
  obtain ⟨z3, z⟩ := ba z
  exact ⟨z1, z2, z3, (ba z).1⟩
theorem ty_ins (T : KF P w K mg base) {C : Addr} (c : Cls K C) (b : objB1 K C = true) {H : Hp} {a dx : Addr} {fs : List (Str × V)} (e : H a = some (.ins C dx fs)) : TyX K H (.ref a) (.ref C) := by
  obtain ⟨o1, o2⟩ := ba T.ob
  obtain ⟨h1, h⟩ := ba b
  obtain ⟨h2, _⟩ := ba h
  exact .base (.ins e c (eqO_ok h1) (eqO_ok o1) (of_decide_eq_true o2) (of_decide_eq_true h2))
structure Kits (K : PySem.W.Frag) : Prop where
  nn : PySem.W.kitOne K (.ref (gNo K)) (.ref (gNo K)) = some true
  ln : PySem.W.kitOne K (.ref (gO K)) (.ref (gNo K)) = some false
  bn : ∀ t ∈ besT, PySem.W.kitOne K (.type t) (.ref (gNo K)) = some false
  rr : PySem.W.kitOne K (.ref (gRe K)) (.ref (gRe K)) = some true
  uu : PySem.W.kitOne K (.ref (gNu K)) (.ref (gNu K)) = some true
  lt : PySem.W.kitOne K (.ref (gO K)) (.type "tuple") = some false
  ll : PySem.W.kitAny K (.ref (gO K)) [.type "list", .type "dict"] = some false
  ut : PySem.W.kitOne K (.ref (gNu K)) (.type "tuple") = some false
  ul : PySem.W.kitAny K (.ref (gNu K)) [.type "list", .type "dict"] = some false
theorem kits (T : KF P w K mg base) : Kits K := by
  have z := (rB T).2.1
  unfold kitsB at z
  obtain ⟨z1, z⟩ := ba z
  obtain ⟨z2, z⟩ := ba z
  obtain ⟨z3, z⟩ := ba z
  obtain ⟨z4, z⟩ := ba z
  obtain ⟨z5, z⟩ := ba z
  have zL := ba (List.all_eq_true.mp z "Lot" (by decide))
  have zN := ba (List.all_eq_true.mp z "Number" (by decide))
  exact ⟨of_decide_eq_true z1, of_decide_eq_true z2, fun t ht => of_decide_eq_true (List.all_eq_true.mp z3 t ht), of_decide_eq_true z4, of_decide_eq_true z5, of_decide_eq_true zL.1, of_decide_eq_true zL.2, of_decide_eq_true zN.1, of_decide_eq_true zN.2⟩
/-! Release.__init__ -/
def spReI (K : PySem.W.Frag) : Sp := fun vs H Q _ => ∃ p dx n l, vs = [.ref p, .ref n, .ref l] ∧ l ≠ p ∧ H p = some (.ins (gRe K) dx []) ∧ (∃ dn fn, H n = some (.ins (gNu K) dn fn)) ∧ (∃ dl fl, H l = some (.ins (gO K) dl fl)) ∧
  ∀ H', Same2 H H' p → H' p = some (.ins (gRe K) dx [("number", .ref n), ("lot", .ref l)]) → Q .non H'
abbrev rSt : Stmt := inClass (top 33) 0
theorem scReI : FnScope ["self", "number", "lot"] ["self", "number", "lot"] (defScope rSt) := ⟨rfl, rfl, rfl, by decide +kernel, rfl, by decide +kernel, by decide +kernel⟩
theorem ok_reI (T : KF P w K mg base) {fd : FuncData} (F : FunD K "__init__" "Release.__init__" (defArgs rSt) (defBody rSt) (defScope rSt) [] [] (ma K (gRe K) "__init__") fd) : FnOk P w K mg base (L2.CX P w) 3 (ma K (gRe K) "__init__") fd ["self", "number", "lot"] (spReI K) := by
  obtain ⟨fk, Gk, bk, kk, gk⟩ := c_kept (w := w) T
  refine F.ok scReI (fun vs H Q E h => ?_) (fun cdv A outer s H vs Q E hr h => ?_)
  · obtain ⟨p, dx, n, l, rfl, _⟩ := h
    rfl
  · obtain ⟨p, dx, n, l, rfl, nlp, hp, ⟨dn, fn, hn⟩, ⟨dl, fl, hl⟩, k⟩ := h
    refine ⟨_, pss_cons (ps_fld (pv 0) (pe_call (E := E0) Gk hr (by rfl) gk kk bk .nil pass0 (pa_cons (pv 1) pa_nil)) rfl) (pss_one (ps_fld (pv 0) (pe_call (E := E0) Gk hr (by rfl) gk kk bk .nil pass0 (pa_cons (pv 2) pa_nil)) rfl)), ?_⟩
    obtain ⟨_, clN, _⟩ := T.gk ("Number", 32) (by decide)
    obtain ⟨_, clR, _⟩ := T.gk ("Release", 33) (by decide)
    have kt := kits T
    refine ⟨_, rfl, .ref n, .ref (gNu K), rfl, fun H' s' => ty_ins T clN (rB T).2.2.1 (s' _ _ hn), kt.ut, kt.ul, fun H1 s1 => ?_⟩
    refine ⟨_, rfl, p, gRe K, dx, _, rfl, s1 _ _ hp, clR, T.noNu, by show 0 < 1000; decide, ?_⟩
    refine ⟨_, rfl, .ref l, .ref (gO K), rfl, fun H' s' => ty_lot T (s' _ _ (by rw [upd_ne nlp]; exact s1 _ _ hl)), kt.lt, kt.ll, fun H2 s2 => ?_⟩
    refine ⟨_, rfl, p, gRe K, dx, _, rfl, s2 _ _ upd_same, clR, T.noLo, by show 1 < 1000; decide, ?_⟩
    refine k _ (fun c o hc e => ?_) (by rw [upd_same]; rfl)
    rw [upd_ne hc]
    exact s2 _ _ (by rw [upd_ne hc]; exact s1 _ _ e)
end
end K6
set_option Elab.async false
set_option linter.all false
set_option maxRecDepth 100000
set_option maxHeartbeats 1000000
/-! o.m(lambda x: body): a lambda with parameters handed to an own method, which calls it by its parameter's name. -/
namespace Oo
open PySem PySem.Spec PyProof.Rows L2 PySem.W LamX NdefX
/-- the lambda as a nested def (without its body) -/
abbrev lamNF (q : Str) (params : Arguments) (scope : Scope) (cl : List (Str × Addr)) (c' : Addr) : NF := ⟨"<lambda>", q, params, [], scope, cl, c'⟩
def LamAt (h : Heap) (f : Addr) (q : Str) (params : Arguments) (body : Expr) (scope : Scope) (cl : List (Str × Addr)) (c' : Addr) : Prop := ∃ pm ctv, h.get? f = some (kla_obj "<lambda>" q params body scope cl pm c' ctv)
section
variable {CX : CXT} {P : Program} {w : World} {K : Frag} {mg : Str → Option Value} {base : Heap} {N ps fr : List Str} {f c' : Addr} {k : Nat} {q : Str} {params : Arguments} {body : Expr} {scope : Scope} {cl : List (Str × Addr)}
theorem lam_code (S : NScope N ps fr scope) (hb : ∀ (pm cv ctv : Value) (us : List Value), us.length = ps.length → bindArgs (kla_fn "<lambda>" q params body scope cl pm cv ctv) ⟨us, []⟩ = pure (ps.zip us)) {A : Around} {outer : List Env} {s : Shared} {H : Hp} {us : List Value} {vs : List V} {ws : List (Option V)} {Q : VK} {E : XK}
    (hr : Room (k + 1) A) (e0 : Env0 P w K mg base A outer s H) (hf : LamAt s.heap f q params body scope cl c') (hc : H c' = some (CodeO c' q)) (C : CellsAt cl fr ws s.heap H) (r : Vals vs us) (hl : vs.length = ps.length)
    (hbody : Room k (A.deeper (envF (lamNF q params scope cl c') f s.heap.objs.size)) → ws.length = fr.length → ∃ t, PE (ncx CX P w K mg base N (lamNF q params scope cl c') f A outer s H E) body t ∧ t (startF N vs ws) H Q) :
    codeAny (model P w) A (.call (.ref f) ⟨us, []⟩) (CR CX outer P w H s Q E) s := by
  obtain ⟨pm, ctv, ho⟩ := hf
  have lim : s.heap.NoLimit := e0.mod.nolimit.keeps fun b o e => (e0.bs b o e).1
  refine kla_callFunE hr.depth ho rfl S.co S.gen rfl (codeO_at e0.hok hc) ?_
  rw [hb pm _ ctv us (by rw [← r.length]; exact hl)]
  refine wpAny_pure (wpAny_newFunctionEnv S.nocell (fun ⟨n, _⟩ hy => S.par n (List.of_mem_zip hy).1) (fun h₁ hns hsb => ⟨lim.fresh _ hsb, ?_⟩) S.kind)
  show codeAny _ _ (.expr body (envF (lamNF q params scope cl c') f s.heap.objs.size)) _ _
  have kp : ∀ b o, s.heap.get? b = some o → h₁.get? b = some o := fun b o e => hsb.extBut b o (Nat.ne_of_lt (Heap.lt_size e)) (Heap.get?_push_of_some _ e)
  obtain ⟨t, ht, hq⟩ := hbody (hr.deeper _) C.len
  have I : Inv (ncx CX P w K mg base N (lamNF q params scope cl c') f A outer s H E) [] (startF N vs ws) H { s with heap := h₁, toks := s.toks + (ps.zip us).length } := inv_startN S hr.hd e0 hl r C hns kp
  refine kla_codeExpr (wpAny_mono (ht.run [] _ (startF N vs ws) H Q I hq) (fun v s' hs => ?_) fun e s' hs => hs)
  obtain ⟨z, H', J, rv, q⟩ := hs
  exact ⟨z, H', J.os, J.bare, J.base, J.hok, rv, q⟩
end
section
variable {X : Cx} {pins : List (Addr × Obj)} {σ : L2.St} {H : Hp} {s : Shared}
/-- what the cells held at the entry they hold still, whoever's they are -/
theorem cells_still {cl : List (Str × Addr)} {fr : List Str} {ws : List (Option V)} (C : CellsAt cl fr ws X.s_0.heap X.H_0) (hx : X.ex = []) (I : Inv X pins σ H s) : CellsAt cl fr ws s.heap H := by
  have no : ∀ b : Addr, b ∉ X.ex := fun b => by rw [hx]; simp
  have kp : ∀ c v, X.H_0 c = none → X.s_0.heap.IsCell c v → s.heap.IsCell c v := fun c v n ⟨o, ho, hd⟩ => by
    obtain ⟨sl, e⟩ := I.base.any ho n (no c)
    exact ⟨_, e, hd⟩
  refine ⟨C.len, fun y c e => ?_, C.inj, fun i y e => ?_⟩
  · obtain ⟨n, v, z⟩ := C.all y c e
    refine ⟨?_, v, kp c v n z⟩
    obtain ⟨o, ho, _⟩ := z
    exact I.base.free c o ho n (no c)
  · obtain ⟨c, hc, hv⟩ := C.has i y e
    exact ⟨c, hc, fun v ev => let ⟨u, r, z⟩ := hv v ev; ⟨u, r, kp c _ (C.all y c hc).1 z⟩⟩
end
section
variable {CXg : CXT} {P : Program} {w : World} {K : Frag} {mg : Str → Option Value} {base : Heap} {Ng : List Str} {qg : Str} {sg : Scope} {g : Addr} {cdg : Value} {A0 : Around} {stack : List Env} {s0 : Shared} {H0 : Hp} {Eg E : XK}
/-- rule(e), in the def that got the lambda, entered at s0 -/
theorem pe_rule {CX : CXT} {N ps fr : List Str} {f c' : Addr} {k i : Nat} {q a : Str} {params : Arguments} {body e : Expr} {es : List Expr} {scope : Scope} {cl : List (Str × Addr)} {ws : List (Option V)} {t : TA} {sp : Sp} {p1 p2 : Pos}
    (S : NScope N ps fr scope) (hb : ∀ (pm cv ctv : Value) (us : List Value), us.length = ps.length → bindArgs (kla_fn "<lambda>" q params body scope cl pm cv ctv) ⟨us, []⟩ = pure (ps.zip us))
    (hf : LamAt s0.heap f q params body scope cl c') (hn : H0 f = none) (hfr : f ∉ frs stack) (C : CellsAt cl fr ws s0.heap H0)
    (hr : Room (k + 1) (A0.deeper (envOfC qg sg s0.heap.objs.size g cdg))) (hx : Passes CX (cxOf CXg P w K mg base Ng qg sg g cdg A0 stack s0 H0 Eg) E)
    (hlen : ∀ vs H Q E, sp vs H Q E → vs.length = ps.length)
    (hbody : ∀ (A : Around) (outer : List Env) (s : Shared) (H : Hp) (vs : List V) (Q : VK), Room k (A.deeper (envF (lamNF q params scope cl c') f s.heap.objs.size)) → sp vs H Q E → ∃ t, PE (ncx CX P w K mg base N (lamNF q params scope cl c') f A outer s H E) body t ∧ t (startF N vs ws) H Q)
    (hN : Ng[i]? = some a) (hv : Vis sg a) (ha : PA (cxOf CXg P w K mg base Ng qg sg g cdg A0 stack s0 H0 Eg) (e :: es) t) (hd : (a == ("__debug__" : Str)) = false := by decide) (hcd : (a == ("__classdict__" : Str)) = false := by decide)
    (he : starEach (e :: es) (cxOf CXg P w K mg base Ng qg sg g cdg A0 stack s0 H0 Eg).env = (false, eval e (cxOf CXg P w K mg base Ng qg sg g cdg A0 stack s0 H0 Eg).env) :: starEach es (cxOf CXg P w K mg base Ng qg sg g cdg A0 stack s0 H0 Eg).env := by rfl)
    (hpl : (backTo p2 (starEach es (cxOf CXg P w K mg base Ng qg sg g cdg A0 stack s0 H0 Eg).env)).any (·.1) = false := by rfl) :
    PE (cxOf CXg P w K mg base Ng qg sg g cdg A0 stack s0 H0 Eg) (.Call (.Name a p1) (e :: es) [] p2) (fun σ H Q => σ[i]? = some (some (.ref f)) ∧ t σ H fun vs H1 => H1 c' = some (CodeO c' q) ∧ sp vs H1 Q E) := by
  refine ⟨fun pins s σ H Q I h => ?_⟩
  obtain ⟨hs, h⟩ := h
  refine wpAny_Call_Name_kw (thn ((pe_var (pos := p1) hN hv hd hcd).run pins s σ H (fun v H1 => v = .ref f ∧ H1 = H) I ⟨.ref f, hs, rfl, rfl⟩) fun u s1 ⟨v, H1, I1, r1, q1⟩ => ?_)
  obtain ⟨ev, eH⟩ := q1
  subst ev
  rw [eH] at I1
  obtain rfl : u = Value.ref f := r1
  have still : ∀ {pins : List (Addr × Obj)} {σ : L2.St} {H : Hp} {s : Shared}, Inv (cxOf CXg P w K mg base Ng qg sg g cdg A0 stack s0 H0 Eg) pins σ H s → LamAt s.heap f q params body scope cl c' := fun {_ _ _ _} J => by
    obtain ⟨pm, ctv, ho⟩ := hf
    exact ⟨pm, ctv, J.base.keep f _ ho hn hfr (fun z => nomatch (show f ∈ ([] : List Addr) from z))⟩
  have fn : ∀ {h : Heap}, LamAt h f q params body scope cl c' → FnAt f h := fun {h} ⟨pm, ctv, ho⟩ => ⟨_, _, _, _, ho⟩
  refine callWith_F (first := []) (fn (still I1)) (thn (ha.run p2 pins s1 σ H _ I1 h) fun us s2 ⟨vs, H2, I2, r, h1, h2⟩ => ⟨fn (still I2), ?_⟩) he hpl
  show wpAny _ _ (call (.ref f) us) _ _ _
  refine wpAny_call (codeAny_mono (lam_code (CX := CX) (N := N) (ws := ws) (vs := vs) S hb hr I2.env0 (still I2) h1 (cells_still C rfl I2) r (hlen _ _ _ _ h2) fun hr' _ => hbody _ _ _ _ _ _ hr' h2) fun rs s' hq => ?_)
  cases rs with
  | error e => exact hx pins σ _ _ e s' I2 hq
  | ok fl =>
    cases fl with
    | ret z => exact I2.after hq
    | next => exact False.elim hq
    | brk => exact False.elim hq
    | cont => exact False.elim hq
end
section
variable {X : Cx}
/-- o.m(lambda ..) -/
def tMLam (C : Addr) (m q : Str) (T : List (Addr × Str)) (GR : Addr → Addr → L2.St → Hp → VK → Prop) (ta : TE) : TE := fun σ H Q => ta σ H fun x H1 => ∃ a dx fs, x = .ref a ∧ H1 a = some (.ins C dx fs) ∧ fs.lookup m = none ∧ Tabs T H1 ∧
  ∀ H2 c', ExtN H1 H2 → Tabs T H2 → H2 c' = some (CodeO c' q) → GR a c' σ H2 Q
theorem pe_methLam {CXg : CXT} {E : XK} {o body : Expr} {ta : TE} {C g c PP : Addr} {m nm qg : Str} {pg : Arguments} {bg : List Stmt} {sg : Scope} {dV kV doc pm cdv ct oc : Value} {an od : Option Addr} {osl : Array (Option Value)} {Ng psg : List Str} {T : List (Addr × Str)}
    {GR : Addr → Addr → L2.St → Hp → VK → Prop} {params : Arguments} {scope : Scope} {lpos apos pos : Pos} {k : Nat} {pl : Sem Bool} (he : PE X o ta) (hc : Cls X.K C) (hm : Meth X.K C m g)
    (lk : X.K.lookup g = some ⟨oc, od, .func (fnOf nm qg pg bg sg dV kV doc pm an cdv ct), osl⟩) (hcg : codeIn X.K cdv qg = true) (hb : Binds X.K (fnOf nm qg pg bg sg dV kV doc pm an cdv ct) psg []) (Sg : FnScope Ng psg sg) (h2 : psg.length = 2)
    (TB : TabB X.base X.mg c PP) (hcode : X.env.code = .ref c) (hmT : (PP, X.env.qual ++ "<lambda>") ∈ T) (hu : ∀ p ∈ T, p.1 = PP → p.2 = X.env.qual ++ "<lambda>") (hr : Room (k + 1) X.A) (hdef : defaultsOf params X.env = ([], []))
    (hfree : X.Ok → ∀ y ∈ scope.names, y.2 = .free → ∃ c, X.env.cells.lookup y.1 = some c) (hx : Passes CXg X E)
    (hG : ∀ (pins : List (Addr × Obj)) (f c' a : Addr) (s : Shared) (σ : L2.St) (H : Hp) (Q : VK), Inv X pins σ H s → LamAt s.heap f (X.env.qual ++ "<lambda>") params body scope (cloFrom X.env.cells scope.names []) c' → H f = none → f ∉ frs X.stack → H c' = some (CodeO c' (X.env.qual ++ "<lambda>")) →
      GR a c' σ H Q → Room k (X.A.deeper (envOfC qg sg s.heap.objs.size g cdv)) → ∃ t, PSs (cxOf CXg X.prog X.w X.K X.mg X.base Ng qg sg g cdv X.A X.stack s H E) bg t ∧ t { nx := fun _ H' => Q .non H', rt := Q } (L2.start Ng [.ref a, .ref f]) H)
    (ht : eval (.Call (.Attribute o m apos) [.Lambda params body scope lpos] [] pos) X.env = (do
      let u ← eval o X.env
      standAt apos.atName
      let (f, first) ← holding [u] (getMethod u m pl)
      callWith pos f first (backTo pos (starEach [.Lambda params body scope lpos] X.env)) (backToKw pos (keywordEach [] X.env))) := by rfl) :
    PE X (.Call (.Attribute o m apos) [.Lambda params body scope lpos] [] pos) (tMLam C m (X.env.qual ++ "<lambda>") T GR ta) := by
  refine ⟨fun pins s σ H Q I h => ?_⟩
  refine methodCall_KW (pl := pl) (thn (he.run pins s σ H _ I h) fun u s1 ⟨x, H1, I1, rx, a, dx, fs, ex, ea, l, hT, q⟩ => ?_) ht
  subst ex
  obtain rfl : u = Value.ref a := rx
  refine getmeth_ok I1 ea hc hm l ?_
  refine callWith_K (first := [.ref a]) (h₀ := X.base) I1.ok.mod.kin hm.kp ?_ (by rfl) (by rfl)
  show wpAny _ _ (spliced ((false, eval (.Lambda params body scope lpos) X.env) :: backTo pos (starEach [] X.env))) _ _ s1
  refine Calls.spliced_cons (lam_make2 I1 TB hcode hmT hu hT hdef (hfree I1.ok) fun f c' pm' ctv H2 s2 I2 eN T2 hf hfn hfr hco => ?_)
  refine Calls.spliced_nil ⟨I2.kIn, ?_⟩
  have rc : codeAny (model X.prog X.w) X.A (.call (.ref g) ⟨[.ref a, .ref f], []⟩) (CR CXg X.stack X.prog X.w H2 s2 Q E) s2 := by
    refine run_ofS (N := Ng) (ps := psg) (us := [.ref a, .ref f]) (vs := [.ref a, .ref f]) lk hcg Sg hr I2.env0 (by
      have := hb s2 [.ref a, .ref f] I2.kIn (by rw [h2]; rfl)
      simpa using this) (.cons rfl (.cons rfl .nil)) h2.symm fun hr' => ?_
    exact hG _ f c' a s2 σ H2 Q I2 ⟨pm', ctv, hf⟩ hfn hfr hco (q H2 c' eN T2 hco) hr'
  refine wpAny_call (codeAny_mono rc fun r s3 hq => ?_)
  cases r with
  | error e => exact hx _ σ _ _ e s3 I2 hq
  | ok fl =>
    cases fl with
    | ret z => exact I2.after hq
    | next => exact False.elim hq
    | brk => exact False.elim hq
    | cont => exact False.elim hq
end
end Oo
set_option Elab.async false
set_option linter.all false
set_option maxRecDepth 100000
set_option maxHeartbeats 1000000
/-! The tables of lambdas; take_fix_behind. -/
namespace K6
open PySem PySem.Spec PyProof.Rows L2 RV EV He EF EI LamX NdefX
def qOf (q : Str × Nat) : Str := (envOfC q.1 (defScope (top q.2)) 0 0 .none).qual ++ "<lambda>"
def cc (K : PySem.W.Frag) (q : Str × Nat) : Addr × Addr := cT K (q.1, none)
def lamN : List (Str × Nat) := [("take_fix_behind", 21), ("_law_sum_right", 48), ("law", 49)]
def TL (K : PySem.W.Frag) : List (Addr × Str) := lamN.map fun q => ((cc K q).2, qOf q)
theorem map_inj {α β : Type} {f : α → β} : ∀ {l : List α}, (l.map f).Nodup → ∀ {a b : α}, a ∈ l → b ∈ l → f a = f b → a = b
  | x :: r, h, a, b, ha, hb, e => by
    obtain ⟨h1, h2⟩ := List.nodup_cons.mp (show (f x :: r.map f).Nodup from h)
    rcases List.mem_cons.mp ha with e1 | a1
    · rcases List.mem_cons.mp hb with e2 | b2
      · rw [e1, e2]
      · exact absurd (by rw [← e1, e]; exact List.mem_map_of_mem b2) h1
    · rcases List.mem_cons.mp hb with e2 | b2
      · exact absurd (by rw [← e2, ← e]; exact List.mem_map_of_mem a1) h1
      · exact map_inj h2 a1 b2 e
section
variable {P : Program} {w : World} {K : PySem.W.Frag} {mg : Str → Option Value} {base : Heap}
theorem tl_one (T : KF P w K mg base) {q : Str × Nat} (hq : q ∈ lamN) : ∀ p ∈ TL K, p.1 = (cc K q).2 → p.2 = qOf q := by
  intro p hp e
  obtain ⟨q', hq', rfl⟩ := List.mem_map.mp hp
  have nd : (lamN.map fun q => (cc K q).2).Nodup := T.tn
  rw [map_inj nd hq' hq e]
theorem tl_mem {q : Str × Nat} (hq : q ∈ lamN) : ((cc K q).2, qOf q) ∈ TL K := List.mem_map_of_mem (f := fun q => ((cc K q).2, qOf q)) hq
/-- all but the thing at p and the tables stay -/
def Ext2 (H H' : Hp) (p : Addr) : Prop := ∀ c o, c ≠ p → H c = some o → (∀ ps, o ≠ .tbl ps) → H' c = some o
theorem Same.extN {H H' : Hp} (s : Same H H') : ExtN H H' := fun c o e _ => s c o e
structure OutT (K : PySem.W.Frag) (H : Hp) (p dx tp : Addr) (ws : List Str) (ln : Int) (t : Nat) (b : Bool) (v : V) (Q : VK) (E : XK) : Prop where
  yes : b = true → ∀ H', Ext2 H H' p → Tabs (TL K) H' → WO K H' p dx tp ws ln (t + 1) → Q v H'
  no : b = false → ∀ H', ExtN H H' → Tabs (TL K) H' → BadE K H' E (.int ln) (.int t)
theorem WO.extN {H H' : Hp} {p dx tp : Addr} {ws : List Str} {ln : Int} {t : Nat} (O : WO K H p dx tp ws ln t) (s : ExtN H H') : WO K H' p dx tp ws ln t := ⟨s _ _ O.ob (fun _ z => nomatch z), s _ _ O.ps (fun _ z => nomatch z), O.le, O.lz⟩
abbrev qTfb : Str × Nat := ("take_fix_behind", 21)
def spTfb (K : PySem.W.Frag) : Sp := fun vs H Q E => ∃ p dx tp ws ln t last, vs = [.ref p, .str last] ∧ WO K H p dx tp ws ln t ∧ (∀ x ∈ ws, x.length ≤ 1000000) ∧ Tabs (TL K) H ∧
  OutT K H p dx tp ws ln t (decide (t < ws.length) && (isFixB (ws.getD t "") && decide (LtS last (ws.getD t "")))) (.str (ws.getD t "")) Q E
abbrev scTb_N : List Str := ["words", "last"]
theorem scTb : FnScope scTb_N ["words", "last"] (defScope (top 21)) := ⟨rfl, rfl, rfl, by decide +kernel, rfl, by decide +kernel, by decide +kernel⟩
/-- the lambda's promise -/
def spRule (last : Str) : Sp := fun vs H Q _ => ∃ x, vs = [.str x] ∧ x.length ≤ 1000000 ∧ ∀ H', Same H H' → Q (.bl (isFixB x && decide (LtS last x))) H'
theorem cells_lam {X : Cx} {pins : List (Addr × Obj)} {σ : L2.St} {H : Hp} {s : Shared} {f c' : Addr} {q : Str} {params : Arguments} {body : Expr} {scope sc : Scope} {fr : List Str} {js : List Nat} (I : Inv X pins σ H s)
    (_hf : Oo.LamAt s.heap f q params body scope (cloFrom X.env.cells scope.names []) c') (hsc : X.env.scope = sc) (h : ndefB sc scope fr = true) (hjs : js.map (fun j => X.N[j]?) = fr.map some) : CellsAt (cloFrom X.env.cells scope.names []) fr (js.map (slotAt σ)) s.heap H := by
  subst hsc
  exact cells_of I (Caps.made I.ok (ndef_free h) (ndef_fr h) hjs)
theorem tabs_two {K : PySem.W.Frag} {H H' : Hp} {p : Addr} {o : HO} (t : Tabs (TL K) H) (hp : H p = some o) (no : ∀ ps, o ≠ .tbl ps) (no2 : ∀ φ, o ≠ .ext φ) (s : Same2 H H' p) : Tabs (TL K) H' := fun q hq => by
  obtain ⟨ps, h1, h2, h3⟩ := t q hq
  have ne : q.1 ≠ p := fun e => by
    rw [e, hp] at h1
    exact no ps (Option.some.inj h1)
  refine ⟨ps, s _ _ ne h1, h2, fun pos cv hc => ?_⟩
  obtain ⟨c, e1, e2⟩ := h3 pos cv hc
  have nc : c ≠ p := fun e => by
    rw [e, hp] at e2
    exact no2 _ (Option.some.inj e2)
  exact ⟨c, e1, s _ _ nc e2⟩
theorem rule_scope (sc : Scope) : NdefX.nscB ["word", "last"] ["word"] ["last"] sc = NdefX.nscB ["word", "last"] ["word"] ["last"] sc := rfl
/-- the body of take_by, with a lambda as its rule: what follows -/
def GRby (K : PySem.W.Frag) (q : Str) (p : Addr) (c' : Addr) (E : XK) (last : Str) (H : Hp) (Q : VK) : Prop := ∃ dx tp ws ln t, WO K H p dx tp ws ln t ∧ (∀ x ∈ ws, x.length ≤ 1000000) ∧ H c' = some (CodeO c' q) ∧
  Out K H p dx tp ws ln t (decide (t < ws.length) && (isFixB (ws.getD t "") && decide (LtS last (ws.getD t "")))) (.str (ws.getD t "")) Q E
theorem ok_tfb (T : KF P w K mg base) (TB : TabB base mg (cc K qTfb).1 (cc K qTfb).2) : ∃ fd, FnOk P w K mg base (L2.CX P w) 6 (ga K "take_fix_behind") fd ["words", "last"] (spTfb K) ∧ L2.Binds K fd ["words", "last"] [] ∧ PySem.W.keepIn K (.ref (ga K "take_fix_behind")) = true ∧ mg "take_fix_behind" = some (.ref (ga K "take_fix_behind")) := by
  obtain ⟨fd, F, g⟩ := T.tops qTfb (by decide)
  have b : L2.Binds K fd ["words", "last"] [] := FunD.bindsN F fun _ _ _ _ _ _ us hl => match us, hl with | [_, _], _ => rfl
  have kp := F.kp
  obtain ⟨oc, od, dV, kV, doc, pm, an, cdv, ct, osl, rfl, lk, hcd, _, _⟩ := F.ex
  obtain ⟨c, rfl⟩ := He.codeIn_ref hcd
  have ec : (cc K qTfb).1 = c := He.codeOf_eq (p := ("take_fix_behind", none)) lk rfl
  obtain ⟨_, fb, Fb⟩ := T.meth ("take_by", 9) (by decide)
  have bb : L2.Binds K fb ["self", "rule"] [] := FunD.bindsN Fb fun _ _ _ _ _ _ us hl => match us, hl with | [_, _], _ => rfl
  obtain ⟨oc2, od2, dV2, kV2, doc2, pm2, an2, cdv2, ct2, osl2, rfl, lk2, hcd2, _, _⟩ := Fb.ex
  obtain ⟨nx, ⟨fS, GS, bS⟩, ⟨fR, GR, bR⟩⟩ := mc T
  obtain ⟨fdF, FF, gF⟩ := T.tops ("is_fix", 4) (by decide)
  have GF : FnOk P w K mg base CX0 1 (ga K "is_fix") fdF ["value"] (spFix K) := ok_fix FF (blt2 T)
  have bF : L2.Binds K fdF ["value"] [] := FunD.bindsN FF fun _ _ _ _ _ _ us hl => match us, hl with | [_], _ => rfl
  refine ⟨_, L2.fn_of lk hcd scTb (fun vs H Q E h => ?_) (fun A outer s H vs Q E hr h => ?_), b, kp, g⟩
  · obtain ⟨p, dx, tp, ws, ln, t, last, rfl, _⟩ := h
    rfl
  · obtain ⟨p, dx, tp, ws, ln, t, last, rfl, O, hz, hT, o⟩ := h
    refine ⟨_, pss_one (ps_ret (Oo.pe_methLam (CXg := L2.CX P w) (E := E) (T := TL K) (c := c) (PP := (cc K qTfb).2) (k := 4) (GR := fun a c' σ H Q => a = p ∧ slotAt σ 1 = some (.str last) ∧ GRby K (qOf qTfb) p c' E last H Q) (pv 0) T.cl (mt T ("take_by", 9) (by decide)) lk2 hcd2 bb scBy rfl (ec ▸ TB) rfl (tl_mem (by decide)) (tl_one T (by decide)) hr rfl
      ?free (passes_call (takes_of rfl rfl rfl rfl) fun _ _ _ _ h => h) ?body)), ?_⟩
    case free => exact fun ok y hy e => (ndef_free (sc := defScope (top 21)) (fr := ["last"]) (by decide +kernel) y hy e).elim (fun z => ok.has _ (.inl z)) fun z => ok.has _ (.inr z)
    case body =>
      rintro pins f c' a s1 σ H1 Q1 I hf hn hfr hco ⟨rfl, hsl, dx, tp, ws, ln, t, O, hz, hc, o⟩ hr1
      have C := cells_lam (fr := ["last"]) (js := [1]) (sc := defScope (top 21)) I hf rfl (by decide +kernel) rfl
      rw [show ([1].map (slotAt σ)) = [some (V.str last)] from by rw [List.map_cons, hsl]; rfl] at C
      refine ⟨_, pss_cons (ps_if (PW.pt (pw_or (pt_not (pt_val (pe_meth0R (E := E0) (pv 0) T.cl (mt T ("is_next", 5) (by decide)) nx (hr1.mono (by decide)) pass0)))
          (pw_or1 (pt_cmpR op_isnot_bl (Oo.pe_rule (CX := L2.CX P w) (E := E) (N := ["word", "last"]) (ps := ["word"]) (fr := ["last"]) (k := 1) (i := 1) (sp := spRule last) (nscope_by (by decide +kernel)) (fun _ _ _ us hl => match us, hl with | [_], _ => rfl) hf hn hfr C (hr1.mono (by decide)) (passes_call (takes_of rfl rfl rfl rfl) fun _ _ _ _ h => h) ?len ?lam rfl (.inl rfl)
            (pa_cons (pe_ix ix_tup (pe_fld (pv 0) rfl) (pe_fld (pv 0) rfl) (fun _ _ => rfl)) pa_nil)) pe_bl (nomark _)))))
        (pss_one (ps_expr (pe_meth0 (E := E) (pv 0) T.cl (mt T ("refuse", 11) (by decide)) GR (hr1.mono (by decide)) bR .nil (passes_call (takes_of rfl rfl rfl rfl) fun _ _ _ _ h => h)))) pss_nil)
      (pss_one (ps_ret (pe_meth0 (E := E0) (pv 0) T.cl (mt T ("step", 10) (by decide)) GS (hr1.mono (by decide)) bS .nil pass0))), ?_⟩
      case len =>
        rintro vs H Q E ⟨x, rfl, _⟩
        rfl
      case lam =>
        rintro A2 outer2 s2 H2 vs2 Q2 hr2 ⟨x, rfl, hx, k⟩
        refine ⟨_, pe_and (pe_call (E := E0) GF hr2 (by rfl) gF FF.kp bF .nil pass0 (pa_cons (pv 0) pa_nil)) (pe_one (pe_cmpR op_gt_str (pv 0) (pv 1) (nomark _))), ?_⟩
        refine ⟨_, rfl, ?_⟩
        unfold tNil
        show spFix K [V.str x] H2 _ _
        refine ⟨_, rfl, .inl ⟨x, rfl, hx, fun H' s' => ⟨_, rfl, ?_⟩⟩⟩
        have k' := k H' s'
        cases e : isFixB x with
        | true =>
          rw [e, Bool.true_and] at k'
          exact if_posB rfl ⟨_, rfl, _, rfl, x, last, rfl, rfl, k'⟩
        | false =>
          rw [e, Bool.false_and] at k'
          exact if_negB rfl k'
      · refine ⟨_, rfl, a, dx, _, rfl, O.ob, rfl, nxt_of [] O (by decide) fun H2 s2 => ⟨nextB ws t [], rfl, ?_⟩⟩
        have O1 := O.same s2
        by_cases h : t < ws.length
        · rw [show nextB ws t [] = true by unfold nextB; rw [decide_eq_true h]; rfl]
          refine if_negB rfl ⟨rfl, _, rfl, a, _, dx, _, _, rfl, O1.ob, T.cl, T.noP, rfl, _, rfl, a, _, dx, _, _, rfl, O1.ob, T.cl, T.noT, rfl, tp, _, _, .str (ws.getD t ""), rfl, rfl, SqT.of O1.ps, atI_nat ?_, ?_⟩
          · rw [List.getElem?_map, getD_at h]
            rfl
          · refine ⟨s2 _ _ hc, _, rfl, hz _ (getD_mem h), fun H3 s3 => ⟨_, true, rfl, rfl, _, rfl, ?_⟩⟩
            have O2 := O1.same s3
            have o2 := (o.same s2).same s3
            rw [decide_eq_true h, Bool.true_and] at o2
            cases e : (isFixB (ws.getD t "") && decide (LtS last (ws.getD t ""))) with
            | true => exact if_negB rfl ⟨_, rfl, a, dx, _, rfl, O2.ob, rfl, a, dx, tp, ws, ln, t, rfl, O2, h, fun H4 s4 O4 => o2.yes e H4 s4 O4⟩
            | false => exact if_posB rfl ⟨_, rfl, a, dx, _, rfl, O2.ob, rfl, a, dx, tp, ws, ln, t, rfl, O2, o2.no e H3 fun _ _ e => e⟩
        · rw [show nextB ws t [] = false by unfold nextB; rw [decide_eq_false h]; rfl]
          exact if_posB rfl (if_posB rfl ⟨_, rfl, a, dx, _, rfl, O1.ob, rfl, a, dx, tp, ws, ln, t, rfl, O1, o.no (by rw [decide_eq_false h]; rfl) H2 s2⟩)
    · refine ⟨_, rfl, p, dx, _, rfl, O.ob, rfl, hT, fun H2 c' eN T2 hc => ⟨rfl, rfl, dx, tp, ws, ln, t, O.extN eN, hz, hc, ?_⟩⟩
      refine ⟨fun e H' s' O' => ?_, fun e H' s' => ?_⟩
      · exact o.yes e H' (fun c u hc e2 n => s' c u hc (eN c u e2 n)) (tabs_two T2 (eN _ _ O.ob fun _ z => nomatch z) (fun _ z => nomatch z) (fun _ z => nomatch z) s') O'
      · exact o.no e H' (fun c u e2 n => s' c u (eN c u e2 n)) (T2.ext s')
end
end K6
set_option Elab.async false
set_option linter.all false
set_option maxRecDepth 100000
set_option maxHeartbeats 1000000
/-! A list comprehension whose test and whose element change nothing that was there. -/
namespace K6
open PySem PySem.Spec PyProof.Rows L2 RV EV He EF EI LamX NdefX
theorem lc_gen {α : Type} {J : It} {G : Hp → Prop} {Y : Nat → Hp → V → Hp → Prop} {enc out : α → V} {p : α → Bool} {ns : List α} {i : Nat} {σ : L2.St} {H1 : Hp} {tt : TT} {te : TE} {D : Addr} {Qd : Hp → Prop} (nD : H1 D = none) (w : Walk J ns.length G Y) (hn : ns.length ≤ 1000)
    (hY : ∀ n x H H', Y n H x H' → H' = H ∧ ∃ z, ns[n]? = some z ∧ x = enc z) (hG : ∀ H', Same H1 H' → G H') (hw : ∀ v, wipe ((wipe σ [i]).set i (some v)) [i] = wipe σ [i])
    (ht : ∀ z ∈ ns, ∀ (H' : Hp) (F : Bool → Hp → Prop), Same H1 H' → (∀ H'', Same H' H'' → F (p z) H'') → tt ((wipe σ [i]).set i (some (enc z))) H' F)
    (he : ∀ z ∈ ns, p z = true → ∀ (H' : Hp) (F : VK), Same H1 H' → (∀ H'', Same H' H'' → F (out z) H'') → te ((wipe σ [i]).set i (some (enc z))) H' F)
    (k : ∀ H', Same H1 H' → H' D = some (.lst ((ns.filter p).map out)) → Qd H') :
    ∃ W : Nat → Nat → Hp → Prop, (∃ m, W 0 m (upd H1 D (.lst []))) ∧ ∀ n m H, W n m H →
      (J.stop n H ∧ Qd H) ∨ (J.go n H ∧ ∃ Nx : Hp → Prop, (∀ H', Nx H' → ∃ m', m' < m ∧ W (n + 1) m' H') ∧ ∀ x H', J.yld n H x H' → gName i x (wipe σ [i]) H' fun σ2 H2 => wipe σ2 [i] = wipe σ [i] ∧ tt σ2 H2 fun b H3 =>
        if b = true then te σ2 H3 fun y H4 => ∃ acc, H4 D = some (.lst acc) ∧ acc.length < sizeLine ∧ Nx (upd H4 D (.lst (acc ++ [y]))) else Nx H3) := by
  have keep : ∀ {H' : Hp} {o : HO}, Same H1 H' → Same H1 (upd H' D o) := fun s c u e => by
    rw [upd_ne (ne_of_none e nD)]
    exact s c u e
  refine lc_it w (fun n H' => Same H1 H' ∧ H' D = some (.lst (((ns.take n).filter p).map out))) ⟨keep fun _ _ e => e, upd_same⟩ (fun n H' _ q => hG H' q.1) ?_ ?_
  · rintro n x H H' hi ⟨s1, hD⟩ hy
    obtain ⟨rfl, z, hz, rfl⟩ := hY n x H H' hy
    obtain ⟨hl, hv⟩ := List.getElem?_eq_some_iff.mp hz
    have more : ns.take (n + 1) = ns.take n ++ [z] := by rw [← hv]; exact List.take_succ_eq_append_getElem hl
    have mem : z ∈ ns := by rw [← hv]; exact List.getElem_mem hl
    have es : (ns.take (n + 1)).filter p = (ns.take n).filter p ++ (if p z = true then [z] else []) := by
      rw [more, List.filter_append]
      congr 1
      by_cases h : p z = true
      · rw [if_pos h, List.filter_cons, if_pos h, List.filter_nil]
      · rw [if_neg h, List.filter_cons, if_neg h, List.filter_nil]
    refine ⟨hw _, ht z mem _ _ s1 fun H2 s2 => ?_⟩
    by_cases h : p z = true
    · refine if_posB h (he z mem h _ _ (s1.trans s2) fun H3 s3 => ⟨_, s3 _ _ (s2 _ _ hD), ?_, keep ((s1.trans s2).trans s3), ?_⟩)
      · have l1 : ((ns.take n).filter p).length ≤ (ns.take n).length := List.length_filter_le _ _
        rw [List.length_take] at l1
        rw [List.length_map, sizeLine_eq]
        omega
      · rw [upd_same, es, if_pos h, List.map_append]
        rfl
    · refine if_negB (Bool.not_eq_true _ ▸ h) ⟨s1.trans s2, ?_⟩
      rw [es, if_neg h, List.append_nil]
      exact s2 _ _ hD
  · rintro H ⟨s, hD⟩
    rw [List.take_of_length_le (Nat.le_refl _)] at hD
    exact k H s hD
theorem at_map {α : Type} {enc : α → V} {ns : List α} : ∀ n x H H', YAt (ns.map enc) n H x H' → H' = H ∧ ∃ z, ns[n]? = some z ∧ x = enc z := by
  rintro n x H H' ⟨rfl, hx⟩
  rw [List.getElem?_map] at hx
  cases e : ns[n]? with
  | none => rw [e] at hx; exact nomatch hx
  | some z =>
    rw [e] at hx
    exact ⟨rfl, z, rfl, (Option.some.inj hx).symm⟩
section
variable {α : Type} {K : PySem.W.Frag} {enc out : α → V} {p : α → Bool} {ns : List α} {i : Nat} {σ : L2.St} {H1 : Hp} {tt : TT} {te : TE} {D : Addr} {Qd : Hp → Prop} {a : Addr}
/-- what is asked of a comprehension's test and element -/
structure LcOk {α : Type} (enc out : α → V) (p : α → Bool) (ns : List α) (i : Nat) (σ : L2.St) (H1 : Hp) (tt : TT) (te : TE) (D : Addr) (Qd : Hp → Prop) : Prop where
  nD : H1 D = none
  hn : ns.length ≤ 1000
  hw : ∀ v, wipe ((wipe σ [i]).set i (some v)) [i] = wipe σ [i]
  ht : ∀ z ∈ ns, ∀ (H' : Hp) (F : Bool → Hp → Prop), Same H1 H' → (∀ H'', Same H' H'' → F (p z) H'') → tt ((wipe σ [i]).set i (some (enc z))) H' F
  he : ∀ z ∈ ns, p z = true → ∀ (H' : Hp) (F : VK), Same H1 H' → (∀ H'', Same H' H'' → F (out z) H'') → te ((wipe σ [i]).set i (some (enc z))) H' F
  k : ∀ H', Same H1 H' → H' D = some (.lst ((ns.filter p).map out)) → Qd H'
abbrev LcGo (J : It) (i : Nat) (σ : L2.St) (H1 : Hp) (tt : TT) (te : TE) (D : Addr) (Qd : Hp → Prop) : Prop := ∃ W : Nat → Nat → Hp → Prop, (∃ m, W 0 m (upd H1 D (.lst []))) ∧ ∀ n m H, W n m H →
      (J.stop n H ∧ Qd H) ∨ (J.go n H ∧ ∃ Nx : Hp → Prop, (∀ H', Nx H' → ∃ m', m' < m ∧ W (n + 1) m' H') ∧ ∀ x H', J.yld n H x H' → gName i x (wipe σ [i]) H' fun σ2 H2 => wipe σ2 [i] = wipe σ [i] ∧ tt σ2 H2 fun b H3 =>
        if b = true then te σ2 H3 fun y H4 => ∃ acc, H4 D = some (.lst acc) ∧ acc.length < sizeLine ∧ Nx (upd H4 D (.lst (acc ++ [y]))) else Nx H3)
/-- over a list -/
theorem lcl (hl : ∀ H', Same H1 H' → SqL K H' a (ns.map enc)) (o : LcOk enc out p ns i σ H1 tt te D Qd) : LcGo (Itl K a) i σ H1 tt te D Qd :=
  lc_gen o.nD (w := by have w := walk_list (K := K) (a := a) (xs := ns.map enc); rw [List.length_map] at w; exact w) o.hn at_map (fun H' s => hl H' s) o.hw o.ht o.he o.k
/-- over a tuple -/
theorem lct (hl : ∀ H', Same H1 H' → SqT K H' a (ns.map enc)) (o : LcOk enc out p ns i σ H1 tt te D Qd) : LcGo (Itt K a) i σ H1 tt te D Qd :=
  lc_gen o.nD (w := by have w := walk_tup (K := K) (a := a) (xs := ns.map enc); rw [List.length_map] at w; exact w) o.hn at_map (fun H' s => hl H' s) o.hw o.ht o.he o.k
theorem tests_yes {z : α} {σ : L2.St} {H' : Hp} {F : Bool → Hp → Prop} (k : ∀ H'', Same H' H'' → F ((fun _ : α => true) z) H'') : tYes σ H' F := k H' fun _ _ e => e
theorem all_yes (ns : List α) : ns.filter (fun _ => true) = ns := List.filter_eq_self.mpr fun _ _ => rfl
end
end K6
set_option Elab.async false
set_option linter.all false
set_option maxRecDepth 100000
set_option maxHeartbeats 1000000
/-! Note: __init__, __neg__, __eq__, __bool__. -/
namespace K6
open PySem PySem.Spec PyProof.Rows L2 RV EV He EF EI
/-- a note at p: the lots of what is gained and of what is lost -/
structure NO (K : PySem.W.Frag) (H : Hp) (p dx g l : Addr) (ga lo : List Str) : Prop where
  ob : H p = some (.ins (gNo K) dx [("gained", .ref g), ("lost", .ref l)])
  g : IsLot K H g ga
  l : IsLot K H l lo
abbrev IsNote (K : PySem.W.Frag) (H : Hp) (p : Addr) (ga lo : List Str) : Prop := ∃ dx g l, NO K H p dx g l ga lo
theorem IsLot.same {K : PySem.W.Frag} {H H' : Hp} {p : Addr} {ns : List Str} (o : IsLot K H p ns) (s : Same H H') : IsLot K H' p ns := let ⟨dx, tp, O⟩ := o; ⟨dx, tp, O.same s⟩
theorem NO.same {K : PySem.W.Frag} {H H' : Hp} {p dx g l : Addr} {ga lo : List Str} (o : NO K H p dx g l ga lo) (s : Same H H') : NO K H' p dx g l ga lo := ⟨s _ _ o.ob, o.g.same s, o.l.same s⟩
theorem IsNote.same {K : PySem.W.Frag} {H H' : Hp} {p : Addr} {ga lo : List Str} (o : IsNote K H p ga lo) (s : Same H H') : IsNote K H' p ga lo := let ⟨dx, g, l, N⟩ := o; ⟨dx, g, l, N.same s⟩
def apartB (xs ys : List Str) : Bool := !(xs.any fun x => decide (x ∈ ys))
section
variable {P : Program} {w : World} {K : PySem.W.Frag} {mg : Str → Option Value} {base : Heap}
theorem r_co (T : KF P w K mg base) : FnR P w K mg base CX0 2 (lAd K "__contains__") (spCoL K) := by
  obtain ⟨_, fd, F⟩ := T.lot ("__contains__", 6) (by decide)
  exact Oo.FnOk.r0 (ok_coL T F) (FunD.bindsN F fun _ _ _ _ _ _ us hl => match us, hl with | [_, _], _ => rfl)
abbrev iLot (X : Cx) (te : TE) : TI := Ow.iOwn X (gO X.K) 1 (lAd X.K "__iter__") te
abbrev tInL (K : PySem.W.Frag) (i j : Nat) : TE := tOp (Oo.rInO (gO K) (fun b => b) (spCoL K) E0) (tVar i) (tVar j)
abbrev iSt : Stmt := nSt 0
abbrev scNoI_N : List Str := ["self", "gained", "lost", "fix"]
theorem scNoI : FnScope scNoI_N ["self", "gained", "lost"] (defScope iSt) := ⟨rfl, rfl, rfl, by decide +kernel, rfl, by decide +kernel, by decide +kernel⟩
def spNoI (K : PySem.W.Frag) : Sp := fun vs H Q _ => ∃ p dx g l ga lo, vs = [.ref p, .ref g, .ref l] ∧ H p = some (.ins (gNo K) dx []) ∧ g ≠ p ∧ l ≠ p ∧ IsLot K H g ga ∧ IsLot K H l lo ∧ apartB ga lo = true ∧
  ∀ H', Same2 H H' p → H' p = some (.ins (gNo K) dx [("gained", .ref g), ("lost", .ref l)]) → Q .non H'
abbrev tIsL (K : PySem.W.Frag) (i : Nat) (s : Str) (E : XK) : TS := tIfS (tNot (tB (tCB (rIsi K) (tCons (tVar i) (tCons (tC (V.ref (gO K))) tNil))))) (tRaise1 (ga K "BadWay") "value" (tC (V.str s)) fun cls d x H => E cls d H) tNext
abbrev tAny (X : Cx) (i : Nat) (ti tj : TE) : TE := tCB (rAny X.K) (tCons (tLc (iLot X ti) (gName i) tYes (tOp (Oo.rInO (gO X.K) (fun b => b) (spCoL X.K) E0) (tVar i) tj) [i]) tNil)
theorem any_read {X : Cx} (T : KF X.prog X.w X.K X.mg X.base) {σ : L2.St} {H : Hp} {Q : VK} {i : Nat} {ti tj : TE} {g l : Addr} {ga lo : List Str} (hg : IsLot X.K H g ga) (hl : IsLot X.K H l lo)
    (h1 : ∀ R : VK, R (.ref g) H → ti σ H R) (h2 : ∀ (z : Str) (H' : Hp) (R : VK), Same H H' → R (.ref l) H' → tj ((wipe σ [i]).set i (some (.str z))) H' R)
    (hz : ∀ z : Str, ((wipe σ [i]).set i (some (V.str z)))[i]? = some (some (.str z))) (hw : ∀ v, wipe ((wipe σ [i]).set i (some v)) [i] = wipe σ [i])
    (k : ∀ H', Same H H' → Q (.bl (ga.any fun x => decide (x ∈ lo))) H') : tAny X i ti tj σ H Q := by
  obtain ⟨dg, tg, G⟩ := hg
  refine h1 _ ⟨g, dg, _, tg, _, rfl, G.ob, SqT.of G.ps, gives_iterL T G, fun D nD => ?_⟩
  have le8 := G.le
  refine lct (K := X.K) (a := tg) (σ := σ) (i := i) (tt := tYes) (p := fun _ => true) (enc := V.str) (out := fun x => V.bl (decide (x ∈ lo))) (ns := ga) (fun H' s => SqT.of (s _ _ G.ps)) ⟨nD, by omega, hw, fun z _ H' F s q => tests_yes (z := z) q, fun z hm _ H' F s q => ?_, fun H2 s2 hD => ?_⟩
  · obtain ⟨dl, tl, L⟩ := hl.same s
    refine ⟨_, hz z, h2 z H' _ s ⟨l, dl, _, rfl, L.ob, l, lo, .str z, rfl, ⟨dl, tl, L⟩, .inl ⟨z, rfl, G.fx z hm, fun H2 s2 => ⟨_, rfl, q H2 s2⟩⟩⟩⟩
  · rw [all_yes] at hD
    refine ⟨D, ga.map fun x => decide (x ∈ lo), rfl, SqL.of ?_, ?_⟩
    · rw [hD, List.map_map]
      rfl
    · have e : (ga.map fun x => decide (x ∈ lo)).any id = ga.any fun x => decide (x ∈ lo) := by
        rw [List.any_map]
        rfl
      rw [e]
      exact k H2 s2
theorem isL_read (T : KF P w K mg base) {σ : L2.St} {H : Hp} {E : XK} {D : Ends} {i : Nat} {s : Str} {g : Addr} {ga : List Str} (hs : σ[i]? = some (some (.ref g))) (hg : IsLot K H g ga) (k : D.nx σ H) : tIsL K i s E D σ H := by
  obtain ⟨dg, tg, G⟩ := hg
  exact ⟨_, hs, .ref g, .ref (gO K), _, _, true, rfl, .own _, ty_lot T G.ob, kit_lot T, true, rfl, if_negB rfl k⟩
theorem ok_noI (T : KF P w K mg base) {fd : FuncData} (F : FunD K "__init__" "Note.__init__" (defArgs iSt) (defBody iSt) (defScope iSt) [] [] (ma K (gNo K) "__init__") fd) : FnOk P w K mg base (L2.CX P w) 4 (ma K (gNo K) "__init__") fd ["self", "gained", "lost"] (spNoI K) := by
  refine F.ok scNoI (fun vs H Q E h => ?_) (fun cdv A outer s H vs Q E hr h => ?_)
  · obtain ⟨p, dx, g, l, ga, lo, rfl, _⟩ := h
    rfl
  · obtain ⟨p, dx, g, l, ga, lo, rfl, hp, ngp, nlp, hg, hl, ap, k⟩ := h
    refine ⟨_, pss_cons (ps_if (pt_not (pt_val (pe_callB call_isi (by rfl) (T.fr "isinstance" (by decide)) PyProof.Rows.boot_isinstance (pa_cons (pv 1) (pa_cons (pe_glob (v := .ref (gO K)) (by rfl) T.go rfl) pa_nil)))))
        (pss_one (ps_raise1 T.bw (hr.mono (by decide)) rfl (takes_of rfl rfl rfl rfl) (by rfl) pe_str)) pss_nil)
      (pss_cons (ps_if (pt_not (pt_val (pe_callB call_isi (by rfl) (T.fr "isinstance" (by decide)) PyProof.Rows.boot_isinstance (pa_cons (pv 2) (pa_cons (pe_glob (v := .ref (gO K)) (by rfl) T.go rfl) pa_nil)))))
        (pss_one (ps_raise1 T.bw (hr.mono (by decide)) rfl (takes_of rfl rfl rfl rfl) (by rfl) pe_str)) pss_nil)
      (pss_cons (ps_if (pt_val (pe_callB (cr_any rfl) (by rfl) (T.fr "any" (by decide)) boot_any (pa_cons (pe_lc (own := [("fix", 3)]) (g := gName 3) (tt := tYes) (te := tInL K 3 2) rfl scNoI.nd
            (Ow.pi_own (k := 1) (pv 1) (lm T ("__iter__", 8) (by decide)).at_ (lm T ("__iter__", 8) (by decide)).fn (hr.mono (by decide)))
            (blkOk_by (N := scNoI_N) (sc := defScope iSt) (by decide +kernel)) (fun _ _ _ _ _ => pg_name (i := 3) scNoI.nd rfl (.inl rfl)) (fun _ _ _ _ _ => pts_nil)
            (fun _ _ _ _ _ => pe_cmpR (Oo.op_inO (lm T ("__contains__", 6) (by decide)) (r_co T) (hr.mono (by decide)) pass0) (pv 3) (pv 2) rfl)) pa_nil)))
        (pss_one (ps_raise1 T.bw (hr.mono (by decide)) rfl (takes_of rfl rfl rfl rfl) (by rfl) pe_str)) pss_nil)
      (pss_cons (ps_fld (pv 0) (pv 1) rfl) (pss_one (ps_fld (pv 0) (pv 2) rfl))))), ?_⟩
    obtain ⟨_, clN, _⟩ := T.gk ("Note", 39) (by decide)
    refine isL_read (i := 1) T rfl hg (isL_read (i := 2) T rfl hl ?_)
    show tAny (cxOf (L2.CX P w) P w K mg base scNoI_N "Note.__init__" (defScope iSt) (ma K (gNo K) "__init__") cdv A outer s H E) 3 (tVar 1) (tVar 2) [some (.ref p), some (.ref g), some (.ref l), none] H _
    refine any_read (X := cxOf (L2.CX P w) P w K mg base scNoI_N "Note.__init__" (defScope iSt) (ma K (gNo K) "__init__") cdv A outer s H E) (ti := tVar 1) (tj := tVar 2) (i := 3) (σ := [some (.ref p), some (.ref g), some (.ref l), none]) T hg hl (fun R r => ⟨_, rfl, r⟩) (fun z H' R _ r => ⟨_, rfl, r⟩) (fun z => rfl) (fun _ => rfl) fun H1 s1 => ?_
    refine ⟨_, rfl, if_negB ?_ ?_⟩
    · unfold apartB at ap
      exact Bool.not_eq_true' _ |>.mp ap
    refine ⟨_, rfl, _, rfl, p, gNo K, dx, _, rfl, s1 _ _ hp, clN, T.noGa, by show 0 < 1000; decide, ?_⟩
    refine ⟨_, rfl, _, rfl, p, gNo K, dx, _, rfl, upd_same, clN, T.noLs, by show 1 < 1000; decide, ?_⟩
    refine k _ (fun c o hc e => ?_) (by rw [upd_same]; rfl)
    rw [upd_ne hc, upd_ne hc]
    exact s1 _ _ e
end
end K6
set_option Elab.async false
set_option linter.all false
set_option maxRecDepth 100000
set_option maxHeartbeats 2000000
/-! bool(a tuple). -/
namespace GBT
open PySem PyProof.Rows
open PySem.Sem (wp)
theorem meets_bool_tup (l : Addr) (items : Array Value) (hfit : (items.size : Int) < 2 ^ 63) :
    Meets (Builtin.«bool.__new__» ⟨[.type "bool", .ref l], []⟩) (fun _ R s => IsTup s.heap l items ∧ R (.ok (.ret (.bool (!items.isEmpty)))) { s with toks := s.toks + 1 + 1 }) :=
  Meets.of_wp fun prog w A R s hs => by
    obtain ⟨hl, hs⟩ := hs
    obtain ⟨hp, g, d, tk, os⟩ := s
    have f1 := F.conv_sub_bool
    repeat (any_goals (first | assumption | (with_reducible refine truthy_tuple hl hfit ?_) | wp_step))
    all_goals first | exact ⟨_, rfl, hs⟩ | exact hs | skip
theorem call_bool_tup {prog : Program} {w : World} {A : Around} {E : Value → Shared → Prop} {s : Shared} {l : Addr} {items : Array Value} {Q : Value → Shared → Prop} (hfit : (items.size : Int) < 2 ^ 63) (hl : IsTup s.heap l items)
    (h : Q (.bool (!items.isEmpty)) { s with toks := s.toks + 1 + 1 }) : wpAny (model prog w) A (call (.type "bool") [.ref l]) Q E s :=
  call_bool_1 (meets_bool_tup l items hfit) ⟨hl, rfl, h⟩
end GBT
namespace Oo
open PySem PySem.Spec PyProof.Rows L2
variable {X : Cx}
/-- bool(a tuple) -/
theorem call_boolT : CallR X (.type "bool") (fun xs H Q => ∃ (a : Addr) (zs : List V), xs = [.ref a] ∧ SqT X.K H a zs ∧ Q (.bl (!zs.isEmpty)) H) := by
  intro pins s σ H xs us Q I r h
  obtain ⟨a, zs, rfl, hq, q⟩ := h
  obtain rfl := Vals.ref1 r
  obtain ⟨its, rv, pl, hz⟩ := I.tuple hq
  have hl := line63
  have hlen := rv.length
  refine GBT.call_bool_tup (by simp only [List.size_toArray]; omega) pl ?_
  exact ⟨.bl (!zs.isEmpty), H, I.tok _, by rw [isEmpty_of rv]; rfl, q⟩
end Oo
set_option Elab.async false
set_option linter.all false
set_option maxRecDepth 100000
set_option maxHeartbeats 1000000
/-! Note: made; __neg__, __eq__, __bool__. -/
namespace K6
open PySem PySem.Spec PyProof.Rows L2 RV EV He EF EI
/-- from what a caller shows to what __init__ asks -/
theorem note_new {K : PySem.W.Frag} {g l : Addr} {ga lo : List Str} {H : Hp} {Q : VK} {E : XK} (hg : IsLot K H g ga) (hl : IsLot K H l lo) (ap : apartB ga lo = true) (k : ∀ x H', Same H H' → IsNote K H' x ga lo → Q (.ref x) H') :
    ∀ x dx, H x = none → H dx = none → dx ≠ x → spNoI K (.ref x :: ([.ref g, .ref l] ++ [])) (upd (upd H dx (.own x)) x (.ins (gNo K) dx [])) (fun v H2 => v = .non ∧ Q (.ref x) H2) E := by
  intro x dx hx hdx ne
  have s1 : Same H (upd (upd H dx (.own x)) x (.ins (gNo K) dx [])) := fun c u e => by
    rw [upd_ne (ne_of_none e hx), upd_ne (ne_of_none e hdx)]
    exact e
  have ng : g ≠ x := let ⟨_, _, G⟩ := hg; ne_of_none G.ob hx
  have nl : l ≠ x := let ⟨_, _, L⟩ := hl; ne_of_none L.ob hx
  refine ⟨x, dx, g, l, ga, lo, rfl, upd_same, ng, nl, hg.same s1, hl.same s1, ap, fun H' s' e => ⟨rfl, k x H' (fun c u q => s' c u (ne_of_none q hx) (s1 c u q)) ⟨dx, g, l, e, ?_, ?_⟩⟩⟩
  · exact hg.same fun c u q => s' c u (ne_of_none q hx) (s1 c u q)
  · exact hl.same fun c u q => s' c u (ne_of_none q hx) (s1 c u q)
section
variable {P : Program} {w : World} {K : PySem.W.Frag} {mg : Str → Option Value} {base : Heap}
theorem mk_note (T : KF P w K mg base) : ∃ fd, FnOk P w K mg base (L2.CX P w) 4 (ma K (gNo K) "__init__") fd ["self", "gained", "lost"] (spNoI K) ∧ L2.Binds K fd ["self", "gained", "lost"] [] ∧ Mk K (gNo K) (ma K (gNo K) "__init__") ∧ mg "Note" = some (.ref (gNo K)) := by
  obtain ⟨fd, F⟩ := T.ik ("Note", 39) (by decide)
  obtain ⟨g, _, m⟩ := T.gk ("Note", 39) (by decide)
  exact ⟨fd, ok_noI T F, FunD.bindsN F fun _ _ _ _ _ _ us hl => match us, hl with | [_, _, _], _ => rfl, m, g⟩
theorem nm (T : KF P w K mg base) (q : Str × Nat) (h : q ∈ noteN) : Meth K (gNo K) q.1 (ma K (gNo K) q.1) := (T.note q h).1
theorem cls_note (T : KF P w K mg base) : Cls K (gNo K) := (T.gk ("Note", 39) (by decide)).2.1
def spNeg (K : PySem.W.Frag) : Sp := fun vs H Q _ => ∃ p ga lo, vs = [.ref p] ∧ IsNote K H p ga lo ∧ apartB lo ga = true ∧ ∀ x H', Same H H' → IsNote K H' x lo ga → Q (.ref x) H'
theorem scNg : FnScope ["self"] ["self"] (defScope (nSt 5)) := ⟨rfl, rfl, rfl, by decide +kernel, rfl, by decide +kernel, by decide +kernel⟩
theorem ok_neg (T : KF P w K mg base) {fd : FuncData} (F : FunD K "__neg__" "Note.__neg__" (defArgs (nSt 5)) (defBody (nSt 5)) (defScope (nSt 5)) [] [] (ma K (gNo K) "__neg__") fd) : FnOk P w K mg base (L2.CX P w) 6 (ma K (gNo K) "__neg__") fd ["self"] (spNeg K) := by
  obtain ⟨fn, Gn, bn, mn, gn⟩ := mk_note (w := w) T
  refine F.ok scNg (fun vs H Q E h => ?_) (fun cdv A outer s H vs Q E hr h => ?_)
  · obtain ⟨p, ga, lo, rfl, _⟩ := h
    rfl
  · obtain ⟨p, ga, lo, rfl, ⟨dx, g, l, N⟩, ap, k⟩ := h
    refine ⟨_, pss_one (ps_ret (pe_make (E := E) mn Gn hr (by rfl) gn bn .nil (passes_call (takes_of rfl rfl rfl rfl) fun _ _ _ _ h => h) (pa_cons (pe_fld (pv 0) rfl) (pa_cons (pe_fld (pv 0) rfl) pa_nil)))), ?_⟩
    refine ⟨_, rfl, p, gNo K, dx, _, _, rfl, N.ob, cls_note T, T.noLs, rfl, _, rfl, p, gNo K, dx, _, _, rfl, N.ob, cls_note T, T.noGa, rfl, ?_⟩
    exact note_new N.l N.g ap k
def spEqN (K : PySem.W.Frag) : Sp := fun vs H Q _ => ∃ p ga lo v, vs = [.ref p, v] ∧ IsNote K H p ga lo ∧ ((∃ q gb lb, v = .ref q ∧ IsNote K H q gb lb ∧ Q (.bl (decide (ga = gb) && decide (lo = lb))) H) ∨ (∃ t, TyX K H v t ∧ PySem.W.kitOne K t (.ref (gNo K)) = some false ∧ Q (.bl false) H))
theorem scEqN : FnScope ["self", "other"] ["self", "other"] (defScope (nSt 3)) := ⟨rfl, rfl, rfl, by decide +kernel, rfl, by decide +kernel, by decide +kernel⟩
theorem r_eq (T : KF P w K mg base) : FnR P w K mg base CX0 1 (lAd K "__eq__") (spEqL K) := by
  obtain ⟨_, fd, F⟩ := T.lot ("__eq__", 5) (by decide)
  exact Oo.FnOk.r0 (ok_eqL T F) (FunD.bindsN F fun _ _ _ _ _ _ us hl => match us, hl with | [_, _], _ => rfl)
theorem ty_note (T : KF P w K mg base) {H : Hp} {a dx : Addr} {fs : List (Str × V)} (e : H a = some (.ins (gNo K) dx fs)) : TyX K H (.ref a) (.ref (gNo K)) := by
  have z := (rB T).1
  unfold noteB at z
  obtain ⟨z1, _⟩ := ba z
  obtain ⟨o1, o2⟩ := ba T.ob
  obtain ⟨h1, h⟩ := ba z1
  obtain ⟨h2, _⟩ := ba h
  exact .base (.ins e (cls_note T) (eqO_ok h1) (eqO_ok o1) (of_decide_eq_true o2) (of_decide_eq_true h2))
abbrev tEqL (K : PySem.W.Frag) (f : Str) : TE := tOp (Oo.rOwn2 K (gO K) (fun t => PySem.W.notFirst K (gO K) t = true) (spEqL K) E0) (tFld K (tVar 0) f) (tFld K (tVar 1) f)
theorem ok_noEq (T : KF P w K mg base) {fd : FuncData} (F : FunD K "__eq__" "Note.__eq__" (defArgs (nSt 3)) (defBody (nSt 3)) (defScope (nSt 3)) [] [] (ma K (gNo K) "__eq__") fd) : FnOk P w K mg base CX0 2 (ma K (gNo K) "__eq__") fd ["self", "other"] (spEqN K) := by
  refine F.ok scEqN (fun vs H Q E h => ?_) (fun cdv A outer s H vs Q E hr h => ?_)
  · obtain ⟨p, ga, lo, v, rfl, _⟩ := h
    rfl
  · obtain ⟨p, ga, lo, v, rfl, ⟨dx, g, l, N⟩, k⟩ := h
    refine ⟨_, PSs.nox (pss_one (ps_ret (pe_and (pe_callB call_isi (by rfl) (T.fr "isinstance" (by decide)) PyProof.Rows.boot_isinstance (pa_cons (pv 1) (pa_cons (pe_glob (v := .ref (gNo K)) (by rfl) (T.gk ("Note", 39) (by decide)).1 rfl) pa_nil)))
      (pe_and (pe_cmpR (Oo.op_cmpO (E := E0) (op := .Eq) (fun _ _ => rfl) (lm T ("__eq__", 5) (by decide)) (r_eq T) hr pass0) (pe_fld (pv 0) rfl) (pe_fld (pv 1) rfl) (nomark _))
        (pe_one (pe_cmpR (Oo.op_cmpO (E := E0) (op := .Eq) (fun _ _ => rfl) (lm T ("__eq__", 5) (by decide)) (r_eq T) hr pass0) (pe_fld (pv 0) rfl) (pe_fld (pv 1) rfl) (nomark _))))))), ?_⟩
    show tRet (tAndV (tCB (rIsi K) (tCons (tVar 1) (tCons (tC (V.ref (gNo K))) tNil))) (tAndV (tEqL K "gained") (tEqL K "lost"))) { nx := fun _ H' => Q .non H', rt := Q } [some (.ref p), some v] H
    rcases k with ⟨q, gb, lb, rfl, ⟨dy, g2, l2, M⟩, k⟩ | ⟨t, ty, kt, k⟩
    · obtain ⟨dg, tg, G⟩ := N.g
      obtain ⟨dl, tl, L⟩ := N.l
      obtain ⟨dg2, tg2, G2⟩ := M.g
      obtain ⟨dl2, tl2, L2⟩ := M.l
      refine ⟨_, rfl, .ref q, .ref (gNo K), _, _, true, rfl, .own _, ty_note T M.ob, (kits T).nn, true, rfl, if_posB rfl ?_⟩
      refine ⟨_, rfl, p, gNo K, dx, _, _, rfl, N.ob, cls_note T, T.noGa, rfl, _, rfl, q, gNo K, dy, _, _, rfl, M.ob, cls_note T, T.noGa, rfl, ?_⟩
      refine ⟨g, dg, _, _, rfl, G.ob, ty_lot T G2.ob, first_lot, g, ga, .ref g2, rfl, N.g, .inl ⟨g2, gb, rfl, M.g, decide (ga = gb), rfl, ?_⟩⟩
      by_cases e : ga = gb
      · rw [decide_eq_true e, Bool.true_and] at k
        refine if_posB (decide_eq_true e) ?_
        refine ⟨_, rfl, p, gNo K, dx, _, _, rfl, N.ob, cls_note T, T.noLs, rfl, _, rfl, q, gNo K, dy, _, _, rfl, M.ob, cls_note T, T.noLs, rfl, ?_⟩
        exact ⟨l, dl, _, _, rfl, L.ob, ty_lot T L2.ob, first_lot, l, lo, .ref l2, rfl, N.l, .inl ⟨l2, lb, rfl, M.l, k⟩⟩
      · rw [decide_eq_false e, Bool.false_and] at k
        exact if_negB (decide_eq_false e) k
    · exact ⟨_, rfl, v, .ref (gNo K), _, _, false, rfl, .own _, ty, kt, false, rfl, if_negB rfl k⟩
/-! __bool__ -/
def spBoN (K : PySem.W.Frag) : Sp := fun vs H Q _ => ∃ p ga lo, vs = [.ref p] ∧ IsNote K H p ga lo ∧ Q (.bl (!(ga ++ lo).isEmpty)) H
theorem scBoN : FnScope ["self"] ["self"] (defScope (nSt 4)) := ⟨rfl, rfl, rfl, by decide +kernel, rfl, by decide +kernel, by decide +kernel⟩
theorem ok_noBo (T : KF P w K mg base) {fd : FuncData} (F : FunD K "__bool__" "Note.__bool__" (defArgs (nSt 4)) (defBody (nSt 4)) (defScope (nSt 4)) [] [] (ma K (gNo K) "__bool__") fd) : FnOk P w K mg base CX0 1 (ma K (gNo K) "__bool__") fd ["self"] (spBoN K) := by
  refine F.ok scBoN (fun vs H Q E h => ?_) (fun cdv A outer s H vs Q E hr h => ?_)
  · obtain ⟨p, ga, lo, rfl, _⟩ := h
    rfl
  · obtain ⟨p, ga, lo, rfl, ⟨dx, g, l, N⟩, k⟩ := h
    obtain ⟨dg, tg, G⟩ := N.g
    obtain ⟨dl, tl, L⟩ := N.l
    refine ⟨_, PSs.nox (pss_one (ps_ret (pe_callTy Oo.call_boolT (by rfl) (T.fr "bool" (by decide)) boot_T (pa_cons (pe_orT (pe_fld (pe_fld (pv 0) rfl) rfl) (pe_one (pe_fld (pe_fld (pv 0) rfl) rfl))) pa_nil)))), ?_⟩
    refine ⟨_, rfl, p, gNo K, dx, _, _, rfl, N.ob, cls_note T, T.noGa, rfl, g, gO K, dg, _, _, rfl, G.ob, T.clo, T.noF, rfl, !(ga.map V.str).isEmpty, .inr (.inl ⟨_, SqT.of G.ps, rfl⟩), ?_⟩
    cases ga with
    | nil =>
      refine if_negB rfl ⟨_, rfl, p, gNo K, dx, _, _, rfl, N.ob, cls_note T, T.noLs, rfl, l, gO K, dl, _, _, rfl, L.ob, T.clo, T.noF, rfl, tl, _, rfl, SqT.of L.ps, ?_⟩
      have e : (!(lo.map V.str).isEmpty) = !(([] : List Str) ++ lo).isEmpty := by cases lo <;> rfl
      rw [e]
      exact k
    | cons x r => exact if_posB rfl ⟨tg, _, rfl, SqT.of G.ps, k⟩
end
end K6
set_option Elab.async false
set_option linter.all false
set_option maxRecDepth 100000
set_option maxHeartbeats 1000000
/-! is_told, note_of. -/
namespace K6
open PySem PySem.Spec PyProof.Rows L2 RV EV He EF EI
abbrev sTold : Stmt := top 35
abbrev sNof : Stmt := top 36
structure RO (K : PySem.W.Frag) (H : Hp) (p dx n l : Addr) (ns : List Str) : Prop where
  ob : H p = some (.ins (gRe K) dx [("number", .ref n), ("lot", .ref l)])
  n : ∃ dn fn, H n = some (.ins (gNu K) dn fn)
  l : IsLot K H l ns
abbrev IsRel (K : PySem.W.Frag) (H : Hp) (p : Addr) (ns : List Str) : Prop := ∃ dx n l, RO K H p dx n l ns
theorem RO.same {K : PySem.W.Frag} {H H' : Hp} {p dx n l : Addr} {ns : List Str} (o : RO K H p dx n l ns) (s : Same H H') : RO K H' p dx n l ns := ⟨s _ _ o.ob, let ⟨dn, fn, e⟩ := o.n; ⟨dn, fn, s _ _ e⟩, o.l.same s⟩
theorem IsRel.same {K : PySem.W.Frag} {H H' : Hp} {p : Addr} {ns : List Str} (o : IsRel K H p ns) (s : Same H H') : IsRel K H' p ns := let ⟨dx, n, l, R⟩ := o; ⟨dx, n, l, R.same s⟩
theorem mem_sift {a : Str} {ns ms : List Str} : a ∈ sift ns ms false ↔ a ∈ ns ∧ a ∉ ms := by
  unfold sift
  rw [List.mem_filter]
  by_cases h : a ∈ ms <;> simp [h]
theorem apart_iff {xs ys : List Str} : apartB xs ys = true ↔ ∀ x ∈ xs, x ∉ ys := by
  unfold apartB
  rw [Bool.not_eq_true', List.any_eq_false]
  constructor
  · intro h x hx hy
    exact h x hx (decide_eq_true hy)
  · intro h x hx
    rw [decide_eq_false (h x hx)]
    exact Bool.false_ne_true
theorem apart_sift {ns ms : List Str} : apartB (sift ns ms false) (sift ms ns false) = true := by
  rw [apart_iff]
  intro x hx hy
  exact (mem_sift.mp hx).2 (mem_sift.mp hy).1
section
variable {P : Program} {w : World} {K : PySem.W.Frag} {mg : Str → Option Value} {base : Heap} {f : Addr} {fd : FuncData}
def spTold (K : PySem.W.Frag) : Sp := fun vs H Q _ => ∃ p ns, vs = [.ref p] ∧ IsRel K H p ns ∧ Q (.bl true) H
theorem scTo : FnScope ["value"] ["value"] (defScope sTold) := ⟨rfl, rfl, rfl, by decide +kernel, rfl, by decide +kernel, by decide +kernel⟩
theorem ok_told (T : KF P w K mg base) (F : FnP K "is_told" sTold f fd) : FnOk P w K mg base CX0 1 f fd ["value"] (spTold K) := by
  obtain ⟨gR, clR, _⟩ := T.gk ("Release", 33) (by decide)
  obtain ⟨gN, clN, _⟩ := T.gk ("Number", 32) (by decide)
  refine F.ok scTo (fun vs H Q E h => ?_) (fun cdv A outer s H vs Q E hr h => ?_)
  · obtain ⟨p, ns, rfl, _⟩ := h
    rfl
  · obtain ⟨p, ns, rfl, ⟨dx, n, l, R⟩, k⟩ := h
    obtain ⟨dn, fn, hn⟩ := R.n
    obtain ⟨dl, tl, L⟩ := R.l
    refine ⟨_, PSs.nox (pss_one (ps_ret (pe_and (pe_callB call_isi (by rfl) (T.fr "isinstance" (by decide)) PyProof.Rows.boot_isinstance (pa_cons (pv 0) (pa_cons (pe_glob (v := .ref (gRe K)) (by rfl) gR rfl) pa_nil)))
      (pe_and (pe_callB call_isi (by rfl) (T.fr "isinstance" (by decide)) PyProof.Rows.boot_isinstance (pa_cons (pe_fld (pv 0) rfl) (pa_cons (pe_glob (v := .ref (gNu K)) (by rfl) gN rfl) pa_nil)))
        (pe_one (pe_callB call_isi (by rfl) (T.fr "isinstance" (by decide)) PyProof.Rows.boot_isinstance (pa_cons (pe_fld (pv 0) rfl) (pa_cons (pe_glob (v := .ref (gO K)) (by rfl) T.go rfl) pa_nil)))))))), ?_⟩
    have kt := kits T
    refine ⟨_, rfl, .ref p, .ref (gRe K), _, _, true, rfl, .own _, ty_ins T clR (rB T).2.2.2 R.ob, kt.rr, true, rfl, if_posB rfl ?_⟩
    refine ⟨_, rfl, p, gRe K, dx, _, _, rfl, R.ob, clR, T.noNu, rfl, .ref n, .ref (gNu K), _, _, true, rfl, .own _, ty_ins T clN (rB T).2.2.1 hn, kt.uu, true, rfl, if_posB rfl ?_⟩
    exact ⟨_, rfl, p, gRe K, dx, _, _, rfl, R.ob, clR, T.noLo, rfl, .ref l, .ref (gO K), _, _, true, rfl, .own _, ty_lot T L.ob, kit_lot T, k⟩
theorem c_told (T : KF P w K mg base) : Callee P w K mg base CX0 1 "is_told" ["value"] (spTold K) := by
  obtain ⟨fd, F, g⟩ := T.tops ("is_told", 35) (by decide)
  exact ⟨fd, ok_told T F, FunD.bindsN F fun _ _ _ _ _ _ us hl => match us, hl with | [_], _ => rfl, F.kp, g⟩
def spNof (K : PySem.W.Frag) : Sp := fun vs H Q _ => ∃ a b na nb, vs = [.ref a, .ref b] ∧ IsRel K H a na ∧ IsRel K H b nb ∧ ∀ x H', Same H H' → IsNote K H' x (sift nb na false) (sift na nb false) → Q (.ref x) H'
theorem scNof : FnScope ["release", "other"] ["release", "other"] (defScope sNof) := ⟨rfl, rfl, rfl, by decide +kernel, rfl, by decide +kernel, by decide +kernel⟩
theorem ok_nof (T : KF P w K mg base) (F : FnP K "note_of" sNof f fd) : FnOk P w K mg base (L2.CX P w) 9 f fd ["release", "other"] (spNof K) := by
  obtain ⟨ft, Gt, bt, kt, gt⟩ := c_told (w := w) T
  obtain ⟨fn, Gn, bn, mn, gn⟩ := mk_note (w := w) T
  obtain ⟨_, fs, Fs⟩ := T.lot ("__sub__", 12) (by decide)
  have bs : L2.Binds K fs ["self", "other"] [] := FunD.bindsN Fs fun _ _ _ _ _ _ us hl => match us, hl with | [_, _], _ => rfl
  have Gs := Oo.FnOk.r0 (ok_su T Fs) bs
  obtain ⟨gR, clR, _⟩ := T.gk ("Release", 33) (by decide)
  refine F.ok scNof (fun vs H Q E h => ?_) (fun cdv A outer s H vs Q E hr h => ?_)
  · obtain ⟨a, b, na, nb, rfl, _⟩ := h
    rfl
  · obtain ⟨a, b, na, nb, rfl, RA, RB, k⟩ := h
    have hp : Passes (L2.CX P w) (cxOf (L2.CX P w) P w K mg base ["release", "other"] "note_of" (defScope sNof) f cdv A outer s H E) E := passes_call (takes_of rfl rfl rfl rfl) fun _ _ _ _ h => h
    refine ⟨_, pss_cons (ps_if (pt_not (pt_val (pe_call (E := E0) Gt (hr.mono (by decide)) (by rfl) gt kt bt .nil pass0 (pa_cons (pv 0) pa_nil)))) (pss_one ps_never) pss_nil)
      (pss_cons (ps_if (pt_not (pt_val (pe_call (E := E0) Gt (hr.mono (by decide)) (by rfl) gt kt bt .nil pass0 (pa_cons (pv 1) pa_nil)))) (pss_one ps_never) pss_nil)
      (pss_one (ps_ret (pe_make (E := E) mn Gn (hr.mono (by decide)) (by rfl) gn bn .nil hp
        (pa_cons (pe_op (Oo.op_bin (E := E) (opc_su T) (by decide) Gs hr hp) (pe_fld (pv 1) rfl) (pe_fld (pv 0) rfl))
          (pa_cons (pe_op (Oo.op_bin (E := E) (opc_su T) (by decide) Gs hr hp) (pe_fld (pv 0) rfl) (pe_fld (pv 1) rfl)) pa_nil)))))), ?_⟩
    obtain ⟨da, n1, l1, A1⟩ := RA
    obtain ⟨db, n2, l2, B1⟩ := RB
    refine ⟨_, rfl, a, na, rfl, ⟨da, n1, l1, A1⟩, true, rfl, if_negB rfl ⟨_, rfl, b, nb, rfl, ⟨db, n2, l2, B1⟩, true, rfl, if_negB rfl ?_⟩⟩
    obtain ⟨dl1, tl1, L1⟩ := A1.l
    obtain ⟨dl2, tl2, L2⟩ := B1.l
    refine ⟨_, rfl, b, gRe K, db, _, _, rfl, B1.ob, clR, T.noLo, rfl, _, rfl, a, gRe K, da, _, _, rfl, A1.ob, clR, T.noLo, rfl, ?_⟩
    refine ⟨l2, dl2, _, _, rfl, L2.ob, ty_lot T L1.ob, .inl rfl, l2, nb, .ref l1, rfl, ⟨dl2, tl2, L2⟩, .inl ⟨l1, na, rfl, ⟨dl1, tl1, L1⟩, fun H1 s1 H2 g dg tg s2 G => ?_⟩⟩
    have s12 := s1.trans s2
    have A2 := A1.same s12
    have B2 := B1.same s12
    have M1 := L1.same s12
    have M2 := L2.same s12
    refine ⟨_, rfl, a, gRe K, da, _, _, rfl, A2.ob, clR, T.noLo, rfl, _, rfl, b, gRe K, db, _, _, rfl, B2.ob, clR, T.noLo, rfl, ?_⟩
    refine ⟨l1, dl1, _, _, rfl, M1.ob, ty_lot T M2.ob, .inl rfl, l1, na, .ref l2, rfl, ⟨dl1, tl1, M1⟩, .inl ⟨l2, nb, rfl, ⟨dl2, tl2, M2⟩, fun H3 s3 H4 l dl tl s4 L => ?_⟩⟩
    have s34 := s3.trans s4
    exact note_new ⟨dg, tg, G.same s34⟩ ⟨dl, tl, L⟩ apart_sift fun x H5 s5 N => k x H5 ((s12.trans s34).trans s5) N
theorem c_nof (T : KF P w K mg base) : Callee P w K mg base (L2.CX P w) 9 "note_of" ["release", "other"] (spNof K) := by
  obtain ⟨fd, F, g⟩ := T.tops ("note_of", 36) (by decide)
  exact ⟨fd, ok_nof T F, FunD.bindsN F fun _ _ _ _ _ _ us hl => match us, hl with | [_, _], _ => rfl, F.kp, g⟩
end
end K6
set_option Elab.async false
set_option linter.all false
set_option maxRecDepth 100000
set_option maxHeartbeats 1000000
/-! C(e, ..) of a class whose __init__ has a star parameter; a walk over one of two kinds of things. -/
namespace Oo
open PySem PySem.Spec PyProof.Rows L2 PySem.W
section
variable {X : Cx} {CX : CXT} {k : Nat} {C f : Addr} {sp : Sp} {E : XK} {x : Str} {e : Expr} {es : List Expr} {t : TA} {p1 pos : Pos}
def tNewP (C : Addr) (sp : Sp) (E : XK) (t : TA) : TE := fun σ H Q => t σ H fun vs H1 => wNew C sp E vs H1 Q
theorem pe_newP (M : Mk X.K C f) (F : FnR X.prog X.w X.K X.mg X.base CX k f sp) (hr : Room (k + 1) X.A) (hg : Gl X x) (hm : X.mg x = some (.ref C)) (hx : Passes CX X E) (ha : PA X (e :: es) t) (hd : (x == ("__debug__" : Str)) = false := by decide)
    (he : starEach (e :: es) X.env = (false, eval e X.env) :: starEach es X.env := by rfl) (hpl : (backTo pos (starEach es X.env)).any (·.1) = false := by rfl) :
    PE X (.Call (.Name x p1) (e :: es) [] pos) (tNewP C sp E t) := by
  refine ⟨fun pins s σ H Q I h => ?_⟩
  refine wpAny_Call_Name_kw (ld_glob I hg hm ?_ hd)
  refine PySem.W.callWith_K (h₀ := X.base) I.ok.mod.kin M.kp (thn (ha.run pos pins s σ H _ I h) fun us s1 ⟨vs, H1, I1, r, q⟩ => ⟨I1.kIn, ?_⟩) he hpl
  exact StX.run_makeR M F hr hx I1 r q
theorem pi_or {tg e : Expr} {w1 w2 : TI} (h1 : PI X tg e w1) (h2 : PI X tg e w2) : PI X tg e (fun σ H R => w1 σ H R ∨ w2 σ H R) :=
  ⟨fun pins s σ H R I h => h.elim (fun h => h1.run pins s σ H R I h) fun h => h2.run pins s σ H R I h⟩
end
end Oo
set_option Elab.async false
set_option linter.all false
set_option maxRecDepth 100000
set_option maxHeartbeats 1000000
/-! fixes_without; _law_lot. -/
namespace K6
open PySem PySem.Spec PyProof.Rows L2 RV EV He EF EI
abbrev sWo : Stmt := top 37
abbrev sLlot : Stmt := top 45
section
variable {P : Program} {w : World} {K : PySem.W.Frag} {mg : Str → Option Value} {base : Heap} {f : Addr} {fd : FuncData}
abbrev scWo_N : List Str := ["fixes", "out", "fix"]
theorem scWo : FnScope scWo_N ["fixes", "out"] (defScope sWo) := ⟨rfl, rfl, rfl, by decide +kernel, rfl, by decide +kernel, by decide +kernel⟩
def without (xs ys : List Str) : List Str := xs.filter fun x => !decide (x ∈ ys)
def spWo (K : PySem.W.Frag) : Sp := fun vs H Q E => ∃ a b xs ys, vs = [.ref a, .ref b] ∧ H a = some (.lst (xs.map V.str)) ∧ H b = some (.lst (ys.map V.str)) ∧ xs.length ≤ 500 ∧ (∀ x ∈ xs, isFixB x = true) ∧ ∀ H', Same H H' → LotR K E Q (without xs ys) H'
abbrev ttWo (K : PySem.W.Frag) : TT := tTest (tOp (rIn K true) (tVar 2) (tVar 1))
theorem ok_wo (T : KF P w K mg base) (F : FnP K "fixes_without" sWo f fd) : FnOk P w K mg base (L2.CX P w) 7 f fd ["fixes", "out"] (spWo K) := by
  obtain ⟨fo, Fo⟩ := T.fo
  have bo : L2.Binds K fo ["fixes"] [] := FunD.bindsN Fo fun _ _ _ _ _ _ us hl => match us, hl with | [_], _ => rfl
  have Go := Oo.FnOk.r0 (ok_of T Fo) bo
  refine F.ok scWo (fun vs H Q E h => ?_) (fun cdv A outer s H vs Q E hr h => ?_)
  · obtain ⟨a, b, xs, ys, rfl, _⟩ := h
    rfl
  · obtain ⟨a, b, xs, ys, rfl, ha, hb, hz, hf, k⟩ := h
    refine ⟨_, pss_one (ps_ret (Oo.pe_smeth (E := E) (pe_glob (v := .ref (gO K)) (by rfl) T.go rfl) (cread T) (smet T) Go hr (passes_call (takes_of rfl rfl rfl rfl) fun _ _ _ _ h => h)
      (pa_cons (pe_lc (own := [("fix", 2)]) (g := gName 2) (tt := ttWo K) (te := tVar 2) rfl scWo.nd (pi_list (pv 0)) (blkOk_by (N := scWo_N) (sc := defScope sWo) (by decide +kernel)) (fun _ _ _ _ _ => pg_name (i := 2) scWo.nd rfl (.inl rfl))
        (fun _ _ _ _ _ => pts_one (pt_cmpR op_notIn_seq (pv 2) (pv 1) rfl)) (fun _ _ _ _ _ => pv 2)) pa_nil))), ?_⟩
    refine ⟨rfl, _, rfl, a, rfl, ⟨_, SqL.of ha⟩, fun D nD => ?_⟩
    refine lcl (K := K) (σ := [some (.ref a), some (.ref b), none]) (i := 2) (tt := ttWo K) (te := tVar 2) (p := fun x => !decide (x ∈ ys)) (enc := V.str) (out := V.str) (ns := xs) (fun H' s => SqL.of (s _ _ ha)) ⟨nD, by omega, fun _ => rfl, fun z _ H' F s e => ?_, fun z _ _ H' F s e => ⟨_, rfl, e _ fun _ _ e => e⟩, fun H3 s3 hD => ?_⟩
    · refine ⟨_, rfl, _, rfl, b, _, rfl, .inl (SqL.of (s _ _ hb)), rfl, flat_strs ys, _, rfl, ?_⟩
      show F (!inV (.str z) (ys.map V.str)) H'
      rw [inV_str]
      exact e _ fun _ _ e => e
    · refine ⟨_, rfl, .inl ⟨_, ⟨D, rfl, .inl hD⟩, fun H4 s4 => .good ?_ (fun x hx => hf x (List.mem_filter.mp hx).1) fun H5 s5 => k H5 (s3.trans (s4.trans s5))⟩⟩
      have := List.length_filter_le (fun x => !decide (x ∈ ys)) xs
      omega
end
end K6
set_option Elab.async false
set_option linter.all false
set_option maxRecDepth 100000
set_option maxHeartbeats 1000000
/-! _law_lot. -/
namespace K6
open PySem PySem.Spec PyProof.Rows L2 RV EV He EF EI
theorem passL {X : Cx} : Passes (L2.CX X.prog X.w) X E0 := fun _ _ _ _ _ _ _ h => by
  obtain ⟨_, _, _, _, _, _, _, _, _, _, _, _, z⟩ := h
  exact z.elim
/-! _law_right (25). -/
abbrev sRt : Stmt := top 25
abbrev scR_N : List Str := ["_law_pen_here", "_law_turn", "_law_some", "_law_text", "_law_line", "_law_words", "_law_spot", "_law_heard_here", "_law_due", "_law_word"]
abbrev one (c : Nat) : Str := ⟨#[c]⟩
section
variable {P : Program} {w : World} {K : PySem.W.Frag} {mg : Str → Option Value} {base : Heap} {f : Addr} {fd : FuncData}
abbrev scLl_N : List Str := ["_law_fixes_here", "_law_found", "_law_fix"]
theorem scLl : FnScope scLl_N ["_law_fixes_here"] (defScope sLlot) := ⟨rfl, rfl, rfl, by decide +kernel, rfl, by decide +kernel, by decide +kernel⟩
def spLlot (K : PySem.W.Frag) : Sp := fun vs H Q _ => ∃ v xs, vs = [v] ∧ ((∃ a, v = .ref a ∧ H a = some (.lst (xs.map V.str))) ∨ (∃ z, v = .str z ∧ xs = z.cps.toList.map one)) ∧ xs.length ≤ 8 ∧ (∀ x ∈ xs, isFixB x = true) ∧ NewL K Q (lined xs) H
abbrev tLlB (K : PySem.W.Frag) : TS := tAsg (tOp (Oo.rOwn2 K (gO K) (Oo.okBin (gO K)) (spBin K fun ns ms Q E H => ∀ H', Same H H' → LotR K E Q (ns ++ ms) H') E0) (tVar 1) (Oo.tNewP (gO K) (spStar (spLi K)) E0 (tCons (tVar 2) tNil))) (gName 1)
theorem ok_llot (T : KF P w K mg base) (F : FnP K "_law_lot" sLlot f fd) : FnOk P w K mg base CX0 9 f fd ["_law_fixes_here"] (spLlot K) := by
  obtain ⟨_, fr, Fr⟩ := T.lot ("__or__", 10) (by decide)
  have br : L2.Binds K fr ["self", "other"] [] := FunD.bindsN Fr fun _ _ _ _ _ _ us hl => match us, hl with | [_, _], _ => rfl
  have Gr := Oo.FnOk.r0 (ok_or T Fr) br
  refine F.ok scLl (fun vs H Q E h => ?_) (fun cdv A outer s H vs Q E hr h => ?_)
  · obtain ⟨v, xs, rfl, _⟩ := h
    rfl
  · obtain ⟨v, xs, rfl, hv, hz, hf, k⟩ := h
    refine ⟨_, PSs.nox (pss_cons (ps_set (i := 1) scLl.nd rfl (.inl rfl) (Oo.pe_new0 (E := E0) T.mko (ok_li T) (hr.mono (by decide)) (by rfl) T.go passL))
      (pss_cons (ps_for PassesOwn.never rfl (Oo.pi_or (pi_list (pv 0)) (pi_str (pv 0))) (pg_name (i := 2) scLl.nd rfl (.inl rfl))
        (pss_one (ps_set (i := 1) scLl.nd rfl (.inl rfl) (pe_op (Oo.op_bin (E := E0) (opc_or T) (by decide) Gr (hr.mono (by decide)) passL) (pv 1) (Oo.pe_newP (E := E0) T.mko (ok_li T) (hr.mono (by decide)) (by rfl) T.go passL (pa_cons (pv 2) pa_nil))))))
      (pss_one (ps_ret (pv 1))))), ?_⟩
    show tSeq (tAsg (fun _ H Q => Oo.wNew (gO K) (spStar (spLi K)) E0 [] H Q) (gName 1)) (tSeq (tFor (fun σ H R => iList K (tVar 0) σ H R ∨ iStr (tVar 0) σ H R) (gName 2) (tLlB K)) (tRet (tVar 1))) { nx := fun _ H' => Q .non H', rt := Q } [some v, none, none] H
    show Oo.wNew (gO K) (spStar (spLi K)) E0 [] H fun x H1 => gName 1 x [some v, none, none] H1 fun σ H' => tSeq (tFor (fun σ H R => iList K (tVar 0) σ H R ∨ iStr (tVar 0) σ H R) (gName 2) (tLlB K)) (tRet (tVar 1)) { nx := fun _ H' => Q .non H', rt := Q } σ H'
    refine new_of (K := K) (xs := []) (MkLot.good (ss := []) (by decide) (fun _ z => nomatch z) fun H1 s1 => ⟨fun _ H2 p0 dx0 tp0 s2 O0 => ?_, fun h => absurd h (by decide)⟩)
    have s12 := s1.trans s2
    have go : ∀ {J : It} {G : Hp → Prop} {Y : Nat → Hp → V → Hp → Prop}, Walk J xs.length G Y → (∀ H', Same H2 H' → G H') → (∀ i x H H', Y i H x H' → H' = H ∧ ∃ z, xs[i]? = some z ∧ x = .str z) →
        ∃ W : Nat → Nat → L2.St → Hp → Prop, (∃ m, W 0 m [some v, some (.ref p0), none] H2) ∧ ∀ i m σ H, W i m σ H → (J.stop i H ∧ tRet (tVar 1) { nx := fun _ H' => Q .non H', rt := Q } σ H) ∨ (J.go i H ∧ ∃ N : L2.St → Hp → Prop, (∀ σ' H', N σ' H' → ∃ m', m' < m ∧ W (i + 1) m' σ' H') ∧ ∀ x H', J.yld i H x H' → gName 2 x σ H' fun σ2 H2 =>
          tLlB K { nx := N, rt := Q, ct := N, bk := fun σ H => tRet (tVar 1) { nx := fun _ H' => Q .non H', rt := Q } σ H } σ2 H2) := by
      intro J G Y w hG hY
      refine for_it (D := { nx := fun σ H => tRet (tVar 1) { nx := fun _ H' => Q .non H', rt := Q } σ H, rt := Q }) w (fun i σ H' => Same H2 H' ∧ ∃ p o, σ = [some v, some (.ref p), o] ∧ IsLot K H' p (lined (xs.take i))) ⟨fun _ _ e => e, p0, none, rfl, dx0, tp0, O0⟩ (fun i σ H' _ q => hG H' q.1) ?_ ?_
      · rintro i x σ H3 H4 hi ⟨s3, p, o, rfl, dx, tp, O⟩ hy
        obtain ⟨rfl, z, hzz, rfl⟩ := hY i x H3 H4 hy
        obtain ⟨hl, hv2⟩ := List.getElem?_eq_some_iff.mp hzz
        have more : xs.take (i + 1) = xs.take i ++ [z] := by rw [← hv2]; exact List.take_succ_eq_append_getElem hl
        have fz : isFixB z = true := hf z (by rw [← hv2]; exact List.getElem_mem hl)
        refine ⟨_, rfl, _, rfl, ?_⟩
        show Oo.wNew (gO K) (spStar (spLi K)) E0 [.str z] H4 fun y H5 => Oo.rOwn2 K (gO K) (Oo.okBin (gO K)) (spBin K fun ns ms Q E H => ∀ H', Same H H' → LotR K E Q (ns ++ ms) H') E0 (.ref p) y H5 fun x H6 => Same H2 H6 ∧ ∃ p' o', [some v, some x, some (V.str z)] = [some v, some (.ref p'), o'] ∧ IsLot K H6 p' (lined (xs.take (i + 1)))
        refine new_of (K := K) (E := E0) (xs := [.str z]) (MkLot.good (ss := [z]) (by show 1 ≤ 1000; decide) (fun x hx => by rw [List.mem_singleton.mp hx]; exact fz) fun H5 s5 => ⟨fun _ H6 q dq tq s6 Oq => ?_, fun h => absurd h (by have := lined_len [z]; simp at this; omega)⟩)
        have s56 := s5.trans s6
        have O6 := O.same s56
        have e : lined (lined (xs.take i) ++ lined [z]) = lined (xs.take (i + 1)) := by
          rw [more]
          refine lined_eq fun a => ?_
          simp [mem_lined]
        have l8 : (lined (xs.take (i + 1))).length ≤ 8 := by
          have h1 := lined_len (xs.take (i + 1))
          rw [List.length_take] at h1
          omega
        refine ⟨p, dx, _, _, rfl, O6.ob, ty_lot T Oq.ob, .inl rfl, p, _, .ref q, rfl, ⟨dx, tp, O6⟩, .inl ⟨q, _, rfl, ⟨dq, tq, Oq⟩, fun H7 s7 => ⟨fun _ H8 r dr tr s8 Or => ?_, fun h => absurd h (by rw [e]; omega)⟩⟩⟩
        rw [e] at Or
        exact ⟨((s3.trans s56).trans s7).trans s8, r, _, rfl, dr, tr, Or⟩
      · rintro σ H3 ⟨s3, p, o, rfl, dx, tp, O⟩
        rw [List.take_of_length_le (Nat.le_refl _)] at O
        exact ⟨_, rfl, k H3 p dx tp (s12.trans s3) O⟩
    rcases hv with ⟨a, rfl, ha⟩ | ⟨z, rfl, ez⟩
    · refine .inl ⟨_, rfl, a, rfl, ⟨_, SqL.of (s12 _ _ ha)⟩, ?_⟩
      refine go (Y := YAt (xs.map V.str)) (by have w := walk_list (K := K) (a := a) (xs := xs.map V.str); rw [List.length_map] at w; exact w) (fun H' s' => SqL.of (s' _ _ (s12 _ _ ha))) fun i x H H' y => at_map (enc := V.str) i x H H' y
    · refine .inr ⟨_, rfl, z, rfl, ?_⟩
      refine go (by have w := walk_str (z := z); rw [show z.cps.size = xs.length by rw [ez, List.length_map, Array.length_toList]] at w; exact w) (fun _ _ => trivial) ?_
      rintro i x H H' ⟨rfl, c, hc, rfl⟩
      refine ⟨rfl, one c, ?_, rfl⟩
      rw [ez, List.getElem?_map, Array.getElem?_toList, hc]
      rfl
theorem c_llot (T : KF P w K mg base) : Callee P w K mg base CX0 9 "_law_lot" ["_law_fixes_here"] (spLlot K) := by
  obtain ⟨fd, F, g⟩ := T.tops ("_law_lot", 45) (by decide)
  exact ⟨fd, ok_llot T F, FunD.bindsN F fun _ _ _ _ _ _ us hl => match us, hl with | [_], _ => rfl, F.kp, g⟩
end
end K6
set_option Elab.async false
set_option linter.all false
set_option maxRecDepth 100000
set_option maxHeartbeats 1000000
/-! _law_fixes. -/
namespace K6
open PySem PySem.Spec PyProof.Rows L2 RV EV He EF EI
abbrev sFxs : Stmt := top 46
def lettersL : List Str := ("abcdefghi" : Str).cps.toList.map one
structure FxOk (ns : List Str) : Prop where
  sub : ns.Sublist lettersL
  le : ns.length ≤ 8
section
variable {P : Program} {w : World} {K : PySem.W.Frag} {mg : Str → Option Value} {base : Heap} {f : Addr} {fd : FuncData}
theorem blt1 (T : KF P w K mg base) : Blt mg := ⟨T.fr _ (by decide), T.fr _ (by decide), T.fr _ (by decide), T.fr _ (by decide)⟩
theorem c_draw (T : KF P w K mg base) : Callee P w K mg base CX0 1 "_law_draw" ["_law_pen_here", "_law_many"] spDraw := by
  obtain ⟨fd, F, g⟩ := T.tops ("_law_draw", 42) (by decide)
  exact ⟨fd, ok_draw F (blt1 T), FunD.bindsN F fun _ _ _ _ _ _ us hl => match us, hl with | [_, _], _ => rfl, F.kp, g⟩
abbrev scFs_N : List Str := ["_law_pen_here", "_law_most", "_law_found", "_law_fix"]
theorem scFs : FnScope scFs_N ["_law_pen_here", "_law_most"] (defScope sFxs) := ⟨rfl, rfl, rfl, by decide +kernel, rfl, by decide +kernel, by decide +kernel⟩
def spFxs : Sp := fun vs H Q _ => ∃ (p a : Addr) (cs : List Int) (b g most : Int), vs = [.ref p, .int most] ∧ Pen H p a cs b g ∧ b ≤ 900 ∧ 0 < most ∧ most < 1000 ∧
  ∀ (l : Addr) (ns : List Str) (b' g' : Int) (H' : Hp), H l = none → FxOk ns → b' ≤ b + 9 → Pen H' p a cs b' g' → Same2 H H' p → H' l = some (.lst (ns.map V.str)) → Q (.ref l) H'
abbrev ttFx : TT := tTest (tOp rEq (tCall spDraw [] E0 (tCons (tVar 0) (tCons (tVar 1) tNil))) (tC (.int 0)))
abbrev tFxA : TS := tAsg (tLc (iStr (tC (V.str "abcdefghi"))) (gName 3) ttFx (tVar 3) [3]) (gName 2)
theorem Pen.new {H : Hp} {p a q : Addr} {cs : List Int} {b g : Int} {o : HO} (N : Pen H p a cs b g) (nq : H q = none) : Pen (upd H q o) p a cs b g :=
  ⟨by rw [upd_ne (ne_of_none N.pn nq)]; exact N.pn, by rw [upd_ne (ne_of_none N.ce nq)]; exact N.ce, N.b0, N.g0, N.ln⟩
theorem cut8 (ns : List Str) : cutV (ns.map V.str) none (some 8) = (ns.take 8).map V.str := by
  unfold cutV
  rw [HT.sIx_none, show (some (8 : Int)) = some ((8 : Nat) : Int) from rfl, HT.sIx_nat, List.drop_zero, Nat.sub_zero, ← List.map_take, List.length_map]
  rcases Nat.le_total 8 ns.length with h | h
  · rw [Nat.min_eq_left h]
  · rw [Nat.min_eq_right h, List.take_of_length_le (Nat.le_refl _), List.take_of_length_le h]
theorem fx_read {p a : Addr} {cs : List Int} {b g most : Int} {H : Hp} {D : Ends} (N : Pen H p a cs b g) (hb : b ≤ 900) (m0 : 0 < most) (m1 : most < 1000)
    (k : ∀ l (ys : List Str) b' g' H', ys.Sublist lettersL → b' ≤ b + 9 → Pen H' p a cs b' g' → Same2 H H' p → H' l = some (.lst (ys.map V.str)) → D.nx [some (.ref p), some (.int most), some (.ref l), none] H') :
    tFxA D [some (.ref p), some (.int most), none, none] H := by
  refine ⟨"abcdefghi", rfl, fun D0 nD => ?_⟩
  have nDp : p ≠ D0 := ne_of_none N.pn nD
  have nDa : a ≠ D0 := ne_of_none N.ce nD
  have keep : ∀ {H' : Hp} {o : HO}, Same2 H H' p → Same2 H (upd H' D0 o) p := fun s c u hc e => by
    rw [upd_ne (ne_of_none e nD)]
    exact s c u hc e
  refine lc_it (σ := [some (.ref p), some (.int most), none, none]) (vs := [3]) (walk_str (z := "abcdefghi")) (fun n H' => ∃ b' g' ys, b' ≤ b + n ∧ Pen H' p a cs b' g' ∧ Same2 H H' p ∧ H' D0 = some (.lst (ys.map V.str)) ∧ ys.Sublist (lettersL.take n))
    ⟨b, g, [], by omega, N.new nD, keep fun _ _ _ e => e, upd_same, List.nil_sublist _⟩ (fun _ _ _ _ => trivial) ?_ ?_
  · rintro n x H4 H5 hn ⟨b4, g4, ys, hb4, N4, s4, hD, sb⟩ ⟨rfl, c, hc, rfl⟩
    have hn : n < 9 := hn
    have hx : lettersL[n]? = some (one c) := by
      unfold lettersL
      rw [List.getElem?_map, Array.getElem?_toList, hc]
      rfl
    obtain ⟨hl, hv⟩ := List.getElem?_eq_some_iff.mp hx
    have more : lettersL.take (n + 1) = lettersL.take n ++ [one c] := by rw [← hv]; exact List.take_succ_eq_append_getElem hl
    refine ⟨rfl, _, rfl, _, rfl, p, a, cs, b4, g4, most, rfl, N4, by omega, m0, m1, fun r b5 g5 H6 r0 r1 hb5 N5 k5 => ⟨rfl, _, rfl, ?_⟩⟩
    have hD6 : H6 D0 = some (.lst (ys.map V.str)) := k5 _ _ nDp.symm hD
    have s6 : Same2 H H6 p := fun c u hc e => k5 c u hc (s4 c u hc e)
    have l9 : ys.length ≤ 9 := by
      have h1 := sb.length_le
      rw [List.length_take] at h1
      omega
    show if decide (V.int r = V.int 0) = true then _ else _
    by_cases h : V.int r = V.int 0
    · refine if_posB (decide_eq_true h) ⟨_, rfl, _, hD6, by rw [List.length_map, sizeLine_eq]; omega, b5, g5, ys ++ [one c], by omega, ?_, keep s6, ?_, ?_⟩
      · exact ⟨by rw [upd_ne nDp]; exact N5.pn, by rw [upd_ne nDa]; exact N5.ce, N5.b0, N5.g0, N5.ln⟩
      · rw [upd_same, List.map_append]
        rfl
      · rw [more]
        exact sb.append (List.Sublist.refl _)
    · refine if_negB (decide_eq_false h) ⟨b5, g5, ys, by omega, N5, s6, hD6, ?_⟩
      rw [more]
      exact sb.trans (List.sublist_append_left _ _)
  · rintro H4 ⟨b4, g4, ys, hb4, N4, s4, hD, sb⟩
    have e9 : ("abcdefghi" : Str).cps.size = 9 := by decide +kernel
    rw [e9] at hb4 sb
    refine k D0 ys b4 g4 H4 ?_ (by omega) N4 s4 hD
    exact sb.trans (List.take_sublist _ _)
theorem ok_fxs (T : KF P w K mg base) (F : FnP K "_law_fixes" sFxs f fd) : FnOk P w K mg base CX0 2 f fd ["_law_pen_here", "_law_most"] spFxs := by
  obtain ⟨fD, GD, bD, kD, gD⟩ := c_draw (w := w) T
  refine F.ok scFs (fun vs H Q E h => ?_) (fun cdv A outer s H vs Q E hr h => ?_)
  · obtain ⟨p, a, cs, b, g, most, rfl, _⟩ := h
    rfl
  · obtain ⟨p, a, cs, b, g, most, rfl, N, hb, m0, m1, k⟩ := h
    refine ⟨_, PSs.nox (pss_cons (ps_setLc (i := 2) (own := [("_law_fix", 3)]) (g := gName 3) (tt := tTest (tOp rEq (tCall spDraw [] E0 (tCons (tVar 0) (tCons (tVar 1) tNil))) (tC (.int 0)))) (te := tVar 3) rfl scFs.nd rfl rfl (sw_true rfl rfl rfl rfl)
        (pi_str pe_str) (blkOk_by (N := scFs_N) (sc := defScope sFxs) (by decide +kernel)) (fun _ _ _ _ _ => pg_name (i := 3) scFs.nd rfl (.inl rfl))
        (fun _ _ _ _ _ => pts_one (pt_cmpR op_eq (pe_call (E := E0) GD hr (by rfl) gD kD bD .nil pass0 (pa_cons (pv 0) (pa_cons (pv 1) pa_nil))) pe_int (nomark _)))
        (fun _ _ _ _ _ => pv 3))
      (pss_one (ps_ret (pe_slice sl_list (pv 2) po_none (po_some pe_int))))), ?_⟩
    show tSeq tFxA (tRet (tSl (rSlL K) (tVar 2) tNoPart (tPart (tC (V.int 8))))) { nx := fun _ H' => Q .non H', rt := Q } [some (.ref p), some (.int most), none, none] H
    refine fx_read N hb m0 m1 fun l ys b' g' H' sb hb' N' s' hl => ?_
    refine ⟨_, rfl, _, rfl, l, _, rfl, SqL.of hl, fun q nq => ?_⟩
    rw [cut8]
    have new : H q = none := by
      rcases e : H q with _ | u
      · rfl
      · have ne : q ≠ p := fun z => by
          rw [z, N'.pn] at nq
          cases nq
        rw [s' q u ne e] at nq
        cases nq
    refine k q (ys.take 8) b' g' _ new ⟨(List.take_sublist _ _).trans sb, ?_⟩ hb' (N'.new nq) (fun c o hc e => same_new nq c o (s' c o hc e)) upd_same
    rw [List.length_take]
    omega
theorem c_fxs (T : KF P w K mg base) : Callee P w K mg base CX0 2 "_law_fixes" ["_law_pen_here", "_law_most"] spFxs := by
  obtain ⟨fd, F, g⟩ := T.tops ("_law_fixes", 46) (by decide)
  exact ⟨fd, ok_fxs T F, FunD.bindsN F fun _ _ _ _ _ _ us hl => match us, hl with | [_, _], _ => rfl, F.kp, g⟩
end
end K6
set_option Elab.async false
set_option linter.all false
set_option maxRecDepth 100000
set_option maxHeartbeats 1000000
/-! try: .. except X as e: v = e, and v asked behind the try: the caught error is tracked from the end of the suite on. -/
namespace Hd
open PySem PySem.Spec PyProof.Rows L2
/-- an error at a: its class, its dict -/
def ExF (C : Value) (d : Option Addr) (a : Addr) : HO := .ext fun h => ∃ (oe : Obj) (vs : Array Value), h.get? a = some oe ∧ Zc C d oe ∧ oe.data = .fields vs
theorem exF_ok {P : Program} {w : World} {H : Hp} {h : Heap} {C : Value} {d : Option Addr} {a : Addr} {oe : Obj} {vs : Array Value} (e : h.get? a = some oe) (z : Zc C d oe) (hd : oe.data = .fields vs) : ObjOk P w H h a (ExF C d a) :=
  ⟨⟨oe, vs, e, z, hd⟩, ⟨oe, e⟩, fun _ _ ⟨o, us, b1, b2, b3⟩ k => ⟨o, us, k _ b1, b2, b3⟩⟩
theorem exF_at {P : Program} {w : World} {H : Hp} {h : Heap} {C : Value} {d : Option Addr} {a : Addr} (ok : HOk P w H h) (e : H a = some (ExF C d a)) : ∃ (oe : Obj) (vs : Array Value), h.get? a = some oe ∧ Zc C d oe ∧ oe.data = .fields vs := by
  have z : ObjOk P w H h a (ExF C d a) := ok a _ e
  exact z.1
section
variable {X : Cx} {pins : List (Addr × Obj)} {σ : L2.St} {H : Hp} {s : Shared} {a : Addr} {oe : Obj} {vs : Array Value} {C : Value} {d : Option Addr}
/-- a pinned error becomes a tracked one -/
theorem track (I : Inv X ((a, oe) :: pins) σ H s) (z : Zc C d oe) (hd : oe.data = .fields vs) (n0 : X.s_0.heap.get? a = none) (np : ∀ p ∈ X.pn ++ pins, p.1 ≠ a) : Inv X pins σ (upd H a (ExF C d a)) s := by
  obtain ⟨ha, na, nL, nF, nc⟩ := I.pin (a, oe) (List.mem_append_right _ List.mem_cons_self)
  have ha : s.heap.get? a = some oe := ha
  have na : H a = none := na
  have other : ∀ {b : Addr} {u : HO}, H b = some u → upd H a (ExF C d a) b = some u := fun {b u} e => by
    rw [upd_ne (fun q => by rw [q, na] at e; cases e)]
    exact e
  have old : ∀ {b : Addr} {o : Obj}, X.s_0.heap.get? b = some o → upd H a (ExF C d a) b = H b := fun {b o} e => upd_ne fun q => by
    rw [q, n0] at e
    cases e
  refine ⟨I.ok, I.os, I.bare, ⟨I.base.keep, I.base.slot, fun b o e n hx => ?_, I.base.there, fun b xs e => ?_, fun b o u e => ?_, fun b ps e => ?_⟩, I.loc, I.cell, ?_, fun x c e => ?_, fun p hp => ?_, fun b u e => ?_, I.len⟩
  · rw [old e]
    exact I.base.free b o e n hx
  · exact other (I.base.tups b xs e)
  · exact other (I.base.frzs b o u e)
  · obtain ⟨more, q⟩ := I.base.tbls b ps e
    exact ⟨more, other q⟩
  · rw [upd_ne (Ne.symm nL)]
    exact I.free
  · rw [upd_ne]
    · exact I.freeC x c e
    · intro q
      obtain ⟨v, o, ho, hv⟩ := I.cell x c e
      rw [q, ha] at ho
      cases ho
      exact nc v hv
  · have hp2 : p ∈ X.pn ++ ((a, oe) :: pins) := (List.mem_append.mp hp).elim (fun q => List.mem_append_left _ q) fun q => List.mem_append_right _ (List.mem_cons_of_mem _ q)
    obtain ⟨p1, p2, p3⟩ := I.pin p hp2
    exact ⟨p1, by rw [upd_ne (np p hp)]; exact p2, p3⟩
  · by_cases q : b = a
    · rw [q, upd_same] at e
      cases e
      rw [q]
      exact exF_ok ha z hd
    · rw [upd_ne q] at e
      exact (I.hok b u e).stay (fun _ _ _ r => r) (fun _ r => other r) fun _ _ r => other r
end
/-- what the clause wishes: behind its suite the error is tracked -/
def wHold (K : PySem.W.Frag) (c : Value) (i : Nat) (ts : Addr → Value → Option Addr → TS) (Wout : WX) (D : Ends) : WX := fun cls d σ H =>
  ∃ b, PySem.W.exmOne K cls c = some b ∧ (b = false → Wout cls d σ H) ∧
    (b = true → ∀ a, H a = none → ts a cls d { nx := fun σ6 H6 => D.nx (σ6.set i none) (upd H6 a (ExF cls d a)), rt := D.rt } (σ.set i (some (.ref a))) H)
section
variable {X : Cx} {x n : Str} {c : Value} {i : Nat} {body suite : List Stmt} {b₀ : Stmt} {np pos pos' : Pos} {tb : WX → TS} {ts : Addr → Value → Option Addr → TS} {Wout : WX}
theorem ps_try_hold (hs : X.stack = X.env :: X.outer) (hf : X.env.frame = some X.env.locals) (hN : X.N.Nodup) (hi : X.N[i]? = some n) (hln : X.env.kindOf n = some .local) (hc : Names X x c) (hex : X.ex = []) (tk : Takes X Wout)
    (hb : ∀ (W : WX) (pn : List (Addr × Obj)) (xe : Value → Shared → Prop), Takes (X.tr pn xe) W → PassesOwn (model X.prog X.w) X.A X.env xe → PSs (X.tr pn xe) body (tb W))
    (hsu : ∀ (a : Addr) (oe : Obj) (cls : Value) (d : Option Addr) (pn : List (Addr × Obj)), Zc cls d oe → (∃ vs, oe.data = .fields vs) → PSs (X.suite a ((a, oe) :: pn)) (b₀ :: suite) (ts a cls d)) :
    PS X (.Try body [.ExceptHandler (some (.Name x np)) (some n) (b₀ :: suite) pos'] [] [] pos) (fun D σ H => tb (wHold X.K c i ts Wout D) D σ H) := by
  constructor
  intro pins s σ H D I h
  have ok := I.ok
  have fr : X.A.frames = some (X.env :: X.outer) := ok.frames.trans (congrArg some hs)
  refine wpAny_Try_except (wpAny_mono ((hb _ (X.pn ++ pins) _ ?takes PassesOwn.looking).run [] s σ H D (I.toTry _) h) (fun fl t ht => ?_) fun _ _ z => z)
  case takes =>
    intro u t out
    obtain ⟨a, B, t0, ps0, σ0, H0, cls, d, rfl, J, nb, up, sky, na, os, ag, b, hb1, hno, hyes⟩ := out
    have J0 : Inv X pins σ0 H0 t0 := J.ofTry ok
    rw [hs] at sky
    have skyB : B.get? a = none := by
      rcases sky with q | q | q
      · exact q.2.1
      · exact q.2.1
      · exact q.2.1
    refine Sky.land Zc.steady fr hf sky fun g1 fl1 up1 => ?_
    have L1 : Inv X pins σ0 H0 { t with heap := g1 } := J0.landed nb fl1.1 (up.trans up1) os ag
    obtain ⟨o1, us1, e1, z1, d1⟩ := fl1.there
    have offStack : a ∉ frs (X.env :: X.outer) := fun hm => by
      obtain ⟨_, o', e', hnf⟩ := fl1.2.2.1.mem hm
      rw [e1] at e'
      cases e'
      exact hnf _ d1
    have offL : a ≠ X.env.locals := fun q => offStack (List.mem_filterMap.mpr ⟨X.env, List.mem_cons_self, hf.trans (congrArg some q.symm)⟩)
    have offF : a ∉ X.fs := fun hm => let ⟨e, he, q⟩ := List.mem_filterMap.mp hm; offStack (List.mem_filterMap.mpr ⟨e, List.mem_cons_of_mem _ he, q⟩)
    have fresh : t0.heap.get? a = none := by
      cases q : t0.heap.get? a with
      | none => rfl
      | some o =>
        have q2 := nb a o q (by rw [hs]; exact offStack)
        rw [skyB] at q2
        cases q2
    have fresh0 : X.s_0.heap.get? a = none := by
      cases q : X.s_0.heap.get? a with
      | none => rfl
      | some o =>
        by_cases hx : a ∈ X.ex
        · exact absurd hx (by rw [hex]; simp)
        · obtain ⟨o', q2⟩ := J0.base.there a o q hx
          rw [fresh] at q2
          cases q2
    have pinsOff : ∀ p ∈ X.pn ++ pins, p.1 ≠ a := fun p hp q => by
      have q2 := (J0.pin p hp).1
      rw [q, fresh] at q2
      cases q2
    have S1 := L1.suite e1 d1 na offL offF
    refine wpAny_handleBy_cons (codeAny_handlers_test ?_) (by intro q; cases q)
    have LT : PySem.W.Looks (model X.prog X.w) g1 (typeOf (.ref a)) cls := fun _ _ _ r k q => wpAny_typeOf_ref (k _ _ e1) (by rw [z1.1]; exact q)
    have LM := PySem.W.exm_one (M := model X.prog X.w) L1.kIn LT hb1
    have asks : ∀ {Q E : Value → Shared → Prop}, Q c { t with heap := g1 } → wpAny (model X.prog X.w) (X.A.mark (some (.ref a))) (eval (.Name x np) X.env) Q E { t with heap := g1 } := fun {Q E} q => by
      obtain ⟨hg, hdbg, hm | ⟨hm, hv, hnn⟩⟩ := hc
      · exact ld_glob (X := X.suite a ((a, o1) :: (X.pn ++ pins))) S1 hg hm q hdbg
      · exact ld_blt (X := X.suite a ((a, o1) :: (X.pn ++ pins))) S1 hg hm hv q hnn hdbg
    refine asks (LM.here ?_)
    cases b with
    | false =>
      refine wpAny_handleBy_nil ?_
      obtain ⟨_, _, _, o3, us3, T, _, _, e3, _, d3, i3, _⟩ := id fl1
      unfold PySem.passOn
      refine wpAny_bind (wpAny_field e3 d3 i3 ?_)
      rw [if_neg (fun q : (Value.ref T == Value.none) = true => nomatch q)]
      have away : wpAny (model X.prog X.w) X.A (setFlight (.ref a) X.env.frame) (fun _ r => wpAny (model X.prog X.w) X.A (throw (.ref a) : Sem Flow) (SP X pins D) X.xe r) X.xe { t with heap := g1 } := by
        rw [hf]
        refine HandSPX.setFlight_upZ fl1 fun g2 fl2 up2 => wpAny_throw (tk _ _ ?_)
        exact ⟨a, B, t0, pins, σ0, H0, cls, d, rfl, J0, nb, (up.trans up1).trans up2, .inr (.inr (by rw [hs]; exact fl2)), na, os, ag, hno rfl⟩
      first
        | exact wpAny_bind (wpAny_pure (wpAny_bind away))
        | exact wpAny_bind away
    | true =>
      refine codeAny_handlers_suite_as (HandSPX.lands_againZ fl1 fun g2 fl2 up2 => ?_)
      have L2' : Inv X pins σ0 H0 { t with heap := g2 } := J0.landed nb fl2.1 ((up.trans up1).trans up2) os ag
      obtain ⟨o2, us2, e2, z2, d2⟩ := fl2.there
      have S2 := L2'.suite e2 d2 na offL offF
      refine store_ok (X := X.suite a ((a, o2) :: (X.pn ++ pins))) (v := .ref a) S2 hN hi (.inl hln) rfl (fun t5 S5 => ?_) (.inr hln)
      refine wpAny_mono ((hsu a o2 cls d (X.pn ++ pins) z2 ⟨_, d2⟩).run [] t5 _ H0 _ S5 (hyes rfl a na)) (fun fl6 t6 h6 => ?_) (fun _ _ z => z.elim)
      have back : ∀ {σ6 : L2.St} {H6 : Hp}, Inv (X.suite a ((a, o2) :: (X.pn ++ pins))) [] σ6 H6 t6 → Inv X ((a, o2) :: pins) σ6 H6 t6 := fun S6 => by
        have U := S6.unsuite (pins := pins) ok
        exact ⟨U.ok, U.os, U.bare, U.base, U.loc, U.cell, U.free, U.freeC, fun p hp => S6.pin p (by
          rcases List.mem_append.mp hp with q | q
          · exact List.mem_append_left _ (List.mem_cons_of_mem _ (List.mem_append_left _ q))
          · rcases List.mem_cons.mp q with q | q
            · rw [q]
              exact List.mem_append_left _ List.mem_cons_self
            · exact List.mem_append_left _ (List.mem_cons_of_mem _ (List.mem_append_right _ q))), U.hok, U.len⟩
      cases fl6 with
      | next =>
        obtain ⟨σ6, H6, S6, q6⟩ := h6
        exact gone_ok (back S6) hN hi hln fun t7 J7 => ⟨_, _, track J7 z2 d2 fresh0 pinsOff, q6⟩
      | brk => obtain ⟨_, _, _, q6⟩ := h6; exact q6.elim
      | cont => obtain ⟨_, _, _, q6⟩ := h6; exact q6.elim
      | ret u =>
        obtain ⟨v6, σ6, H6, S6, r6, q6⟩ := h6
        exact gone_ok (S6.unsuite (pins := pins) ok) hN hi hln fun t7 J7 => ⟨v6, _, H6, J7, r6, q6⟩
  · cases fl with
    | next =>
      obtain ⟨σ1, H1, J1, q⟩ := ht
      exact wpAny_execs_nil ⟨σ1, H1, J1.ofTry ok, q⟩
    | brk =>
      obtain ⟨σ1, H1, J1, q⟩ := ht
      exact ⟨σ1, H1, J1.ofTry ok, q⟩
    | cont =>
      obtain ⟨σ1, H1, J1, q⟩ := ht
      exact ⟨σ1, H1, J1.ofTry ok, q⟩
    | ret u =>
      obtain ⟨v, σ1, H1, J1, r1, q⟩ := ht
      exact ⟨v, σ1, H1, J1.ofTry ok, r1, q⟩
end
end Hd
set_option Elab.async false
set_option linter.all false
set_option maxRecDepth 100000
set_option maxHeartbeats 1000000
/-! try: .. except X: .. except Y as n: .. : each error of the body is one of the two. -/
namespace Hd
open PySem PySem.Spec PyProof.Rows L2
def wTwo (K : PySem.W.Frag) (c c2 : Value) (i : Nat) (ts : TS) (ts2 : Addr → Value → Option Addr → TS) (D : Ends) : WX := fun cls d σ H =>
  (PySem.W.exmOne K cls c = some true ∧ ts { nx := D.nx, rt := D.rt } σ H) ∨
  (PySem.W.exmOne K cls c = some false ∧ PySem.W.exmOne K cls c2 = some true ∧ ∀ a, H a = none → ts2 a cls d { nx := fun σ6 H6 => D.nx (σ6.set i none) H6, rt := D.rt } (σ.set i (some (.ref a))) H)
section
variable {X : Cx} {x y n : Str} {c c2 : Value} {i : Nat} {body suite suite2 : List Stmt} {b₀ b₂ : Stmt} {np np2 pos pos' pos2 : Pos} {tb : WX → TS} {ts : TS} {ts2 : Addr → Value → Option Addr → TS}
theorem ps_try_two (hs : X.stack = X.env :: X.outer) (hf : X.env.frame = some X.env.locals) (hN : X.N.Nodup) (hi : X.N[i]? = some n) (hln : X.env.kindOf n = some .local) (hc : Names X x c) (hc2 : Names X y c2)
    (hb : ∀ (W : WX) (pn : List (Addr × Obj)) (xe : Value → Shared → Prop), Takes (X.tr pn xe) W → PassesOwn (model X.prog X.w) X.A X.env xe → PSs (X.tr pn xe) body (tb W))
    (hsu : ∀ (a : Addr) (oe : Obj) (pn : List (Addr × Obj)), PSs (X.suite a ((a, oe) :: pn)) (b₀ :: suite) ts)
    (hsu2 : ∀ (a : Addr) (oe : Obj) (cls : Value) (d : Option Addr) (pn : List (Addr × Obj)), Zc cls d oe → (∃ vs, oe.data = .fields vs) → PSs (X.suite a ((a, oe) :: pn)) (b₂ :: suite2) (ts2 a cls d)) :
    PS X (.Try body [.ExceptHandler (some (.Name x np)) none (b₀ :: suite) pos', .ExceptHandler (some (.Name y np2)) (some n) (b₂ :: suite2) pos2] [] [] pos) (fun D σ H => tb (wTwo X.K c c2 i ts ts2 D) D σ H) := by
  constructor
  intro pins s σ H D I h
  have ok := I.ok
  have fr : X.A.frames = some (X.env :: X.outer) := ok.frames.trans (congrArg some hs)
  refine wpAny_Try_except (wpAny_mono ((hb _ (X.pn ++ pins) _ ?takes PassesOwn.looking).run [] s σ H D (I.toTry _) h) (fun fl t ht => ?_) fun _ _ z => z)
  case takes =>
    intro u t out
    obtain ⟨a, B, t0, ps0, σ0, H0, cls, d, rfl, J, nb, up, sky, na, os, ag, wish⟩ := out
    have J0 : Inv X pins σ0 H0 t0 := J.ofTry ok
    rw [hs] at sky
    refine Sky.land Zc.steady fr hf sky fun g1 fl1 up1 => ?_
    have L1 : Inv X pins σ0 H0 { t with heap := g1 } := J0.landed nb fl1.1 (up.trans up1) os ag
    obtain ⟨o1, us1, e1, z1, d1⟩ := fl1.there
    have offStack : a ∉ frs (X.env :: X.outer) := fun hm => by
      obtain ⟨_, o', e', hnf⟩ := fl1.2.2.1.mem hm
      rw [e1] at e'
      cases e'
      exact hnf _ d1
    have offL : a ≠ X.env.locals := fun q => offStack (List.mem_filterMap.mpr ⟨X.env, List.mem_cons_self, hf.trans (congrArg some q.symm)⟩)
    have offF : a ∉ X.fs := fun hm => let ⟨e, he, q⟩ := List.mem_filterMap.mp hm; offStack (List.mem_filterMap.mpr ⟨e, List.mem_cons_of_mem _ he, q⟩)
    have S1 := L1.suite e1 d1 na offL offF
    have LT : PySem.W.Looks (model X.prog X.w) g1 (typeOf (.ref a)) cls := fun _ _ _ r k q => wpAny_typeOf_ref (k _ _ e1) (by rw [z1.1]; exact q)
    have asks : ∀ {v : Str} {cv : Value} {vp : Pos}, Names X v cv → ∀ {Q E : Value → Shared → Prop}, Q cv { t with heap := g1 } → wpAny (model X.prog X.w) (X.A.mark (some (.ref a))) (eval (.Name v vp) X.env) Q E { t with heap := g1 } := fun {v cv vp} hv {Q E} q => by
      obtain ⟨hg, hdbg, hm | ⟨hm, hw, hnn⟩⟩ := hv
      · exact ld_glob (X := X.suite a ((a, o1) :: (X.pn ++ pins))) S1 hg hm q hdbg
      · exact ld_blt (X := X.suite a ((a, o1) :: (X.pn ++ pins))) S1 hg hm hw q hnn hdbg
    rcases wish with ⟨m1, q1⟩ | ⟨m1, m2, q2⟩
    · refine wpAny_handleBy_cons (codeAny_handlers_test (asks hc ((PySem.W.exm_one (M := model X.prog X.w) L1.kIn LT m1).here ?_))) (by intro q; cases q)
      refine codeAny_handlers_suite (HandSPX.lands_againZ fl1 fun g2 fl2 up2 => ?_)
      have L2' : Inv X pins σ0 H0 { t with heap := g2 } := J0.landed nb fl2.1 ((up.trans up1).trans up2) os ag
      obtain ⟨o2, us2, e2, z2, d2⟩ := fl2.there
      have S2 := L2'.suite e2 d2 na offL offF
      refine wpAny_mono ((hsu a o2 (X.pn ++ pins)).run [] _ _ H0 _ S2 q1) (fun fl6 t6 h6 => ?_) (fun _ _ z => z.elim)
      cases fl6 with
      | next => obtain ⟨σ6, H6, S6, q6⟩ := h6; exact ⟨σ6, H6, S6.unsuite (pins := pins) ok, q6⟩
      | brk => obtain ⟨_, _, _, q6⟩ := h6; exact q6.elim
      | cont => obtain ⟨_, _, _, q6⟩ := h6; exact q6.elim
      | ret u => obtain ⟨v6, σ6, H6, S6, r6, q6⟩ := h6; exact ⟨v6, σ6, H6, S6.unsuite (pins := pins) ok, r6, q6⟩
    · refine wpAny_handleBy_cons (codeAny_handlers_test (asks hc ((PySem.W.exm_one (M := model X.prog X.w) L1.kIn LT m1).here ?_))) (by intro q; cases q)
      refine wpAny_handleBy_cons (codeAny_handlers_test (asks hc2 ((PySem.W.exm_one (M := model X.prog X.w) L1.kIn LT m2).here ?_))) (by intro q; cases q)
      refine codeAny_handlers_suite_as (HandSPX.lands_againZ fl1 fun g2 fl2 up2 => ?_)
      have L2' : Inv X pins σ0 H0 { t with heap := g2 } := J0.landed nb fl2.1 ((up.trans up1).trans up2) os ag
      obtain ⟨o2, us2, e2, z2, d2⟩ := fl2.there
      have S2 := L2'.suite e2 d2 na offL offF
      refine store_ok (X := X.suite a ((a, o2) :: (X.pn ++ pins))) (v := .ref a) S2 hN hi (.inl hln) rfl (fun t5 S5 => ?_) (.inr hln)
      refine wpAny_mono ((hsu2 a o2 cls d (X.pn ++ pins) z2 ⟨_, d2⟩).run [] t5 _ H0 _ S5 (q2 a na)) (fun fl6 t6 h6 => ?_) (fun _ _ z => z.elim)
      cases fl6 with
      | next =>
        obtain ⟨σ6, H6, S6, q6⟩ := h6
        exact gone_ok (S6.unsuite (pins := pins) ok) hN hi hln fun t7 J7 => ⟨_, _, J7, q6⟩
      | brk => obtain ⟨_, _, _, q6⟩ := h6; exact q6.elim
      | cont => obtain ⟨_, _, _, q6⟩ := h6; exact q6.elim
      | ret u =>
        obtain ⟨v6, σ6, H6, S6, r6, q6⟩ := h6
        exact gone_ok (S6.unsuite (pins := pins) ok) hN hi hln fun t7 J7 => ⟨v6, _, H6, J7, r6, q6⟩
  · cases fl with
    | next =>
      obtain ⟨σ1, H1, J1, q⟩ := ht
      exact wpAny_execs_nil ⟨σ1, H1, J1.ofTry ok, q⟩
    | brk =>
      obtain ⟨σ1, H1, J1, q⟩ := ht
      exact ⟨σ1, H1, J1.ofTry ok, q⟩
    | cont =>
      obtain ⟨σ1, H1, J1, q⟩ := ht
      exact ⟨σ1, H1, J1.ofTry ok, q⟩
    | ret u =>
      obtain ⟨v, σ1, H1, J1, r1, q⟩ := ht
      exact ⟨v, σ1, H1, J1.ofTry ok, r1, q⟩
end
end Hd
set_option Elab.async false
set_option linter.all false
set_option maxRecDepth 100000
set_option maxHeartbeats 1000000
namespace Hd
open PySem PySem.Spec PyProof.Rows L2
/-- a caught error at a of the class at C, with the fields fs in its dict at d -/
structure ErF (H : Hp) (a C d : Addr) (fs : List (Str × V)) : Prop where
  ob : H a = some (ExF (.ref C) (some d) a)
  dc : H d = some (.xd fs)
theorem ErF.inst {X : Cx} {pins : List (Addr × Obj)} {σ : L2.St} {H : Hp} {s : Shared} {a C d : Addr} {fs : List (Str × V)} (I : Inv X pins σ H s) (r : ErF H a C d fs) :
    ∃ (ox od : Obj) (mA : Str → Option Value), PySem.W.InstAt s.heap a ox C (some od) ∧ (∀ n, PySem.W.lookIn n od = some (mA n)) ∧ ∀ n, RelO (fs.lookup n) (mA n) := by
  obtain ⟨oe, vs, ha, hz, hd⟩ := exF_at I.hok r.ob
  have hx : ObjOk X.prog X.w H s.heap d (.xd fs) := I.hok d _ r.dc
  obtain ⟨mA, hns, rel⟩ := hx
  obtain ⟨od, ho, hl⟩ := lookIn_ns hns
  exact ⟨oe, od, mA, ⟨ha, hz.1, by unfold PySem.W.notCls; rw [hd] <;> rfl, by rw [hz.2]; exact ho⟩, hl, rel⟩
/-- e.f -/
def tFF (K : PySem.W.Frag) (te : TE) (f : Str) : TE := fun σ H Q => te σ H fun x H1 => ∃ a C d fs v, x = .ref a ∧ ErF H1 a C d fs ∧ XfC K C ∧ PySem.W.findIn K (.ref C) f = some none ∧ fs.lookup f = some v ∧ Q v H1
theorem pe_ff {X : Cx} {e : Expr} {te : TE} {pos : Pos} {f : Str} (he : PE X e te) (hb : attributeBase e f X.env (eval e X.env) = eval e X.env := by rfl) : PE X (.Attribute e f pos) (tFF X.K te f) := by
  refine ⟨fun pins s σ H Q I h => attr_of hb (thn (he.run pins s σ H _ I h) fun u s1 hh => ?_)⟩
  obtain ⟨x, H1, I1, rx, a, C, d, fs, v, rfl, r, T, hno, l, q⟩ := hh
  obtain rfl : u = Value.ref a := rx
  obtain ⟨ox, od, mA, J, hl, rel⟩ := r.inst I1
  obtain ⟨z, hz, rz⟩ := RelO.some_of (v := v) (o := mA f) (by rw [← l]; exact rel f)
  exact HandSPX.exc_get I1.kIn J T.ga T.gg T.exC (PySem.W.findObj_own T.hdC hno rfl (by rw [hl, hz])) (handed_of rz) ⟨v, H1, I1.tok _, rz, q⟩
/-- isinstance(e, c) -/
def rIsF (K : PySem.W.Frag) : List V → Hp → VK → Prop := fun xs H Q => ∃ (a C d : Addr) (fs : List (Str × V)) (c : V) (u : Value) (b : Bool), xs = [.ref a, c] ∧ ErF H a C d fs ∧ L2.ExcC K C ∧ ClsV c u ∧ PySem.W.kitOne K (.ref C) u = some b ∧ Q (.bl b) H
theorem call_isF {X : Cx} : CallR X (.builtin "isinstance") (rIsF X.K) := by
  intro pins s σ H xs us Q I r h
  obtain ⟨a, C, d, fs, c, u, b, rfl, hi, T, k, e, q⟩ := h
  obtain ⟨u1, u2, rfl, r1, r2⟩ := vals2 r
  have e2 := k.eq r2
  subst e2
  cases (show u1 = Value.ref a from r1)
  have hcl : (PySem.W.clsIn X.K C).isSome = true := by
    obtain ⟨cd, hc, _⟩ := PySem.W.any_some T.hd
    rw [hc]
    rfl
  obtain ⟨ox, od, mA, J, _⟩ := hi.inst I
  exact PySem.W.kia_one (PySem.W.kitx_exc hcl T.hg T.hk T.hs T.ha T.hn T.ht T.hm) I.kIn J e (fun z => nomatch z) fun tk => ⟨.bl b, H, I.tok tk, rfl, q⟩
end Hd
namespace Oo
open PySem PySem.Spec PyProof.Rows L2
/-- repr of a text -/
abbrev rRepT : List V → Hp → VK → Prop := fun xs H Q => ∃ x : Str, xs = [.str x] ∧ (reprText x).length ≤ sizeLine ∧ Q (.str (reprText x)) H
theorem call_repr_txt {X : Cx} : CallR X (.builtin "repr") rRepT := by
  intro pins s σ H xs us Q I r h
  obtain ⟨x, rfl, hz, q⟩ := h
  obtain ⟨u, rfl, ru⟩ := vals1 r
  obtain ⟨t, rfl⟩ := (show ∃ t, u = Value.str x t from ru)
  exact PySem.P.repr_of_str ⟨.str _, H, I.tok _, ⟨_, rfl⟩, q⟩ hz
end Oo
set_option Elab.async false
set_option linter.all false
set_option maxRecDepth 100000
set_option maxHeartbeats 1000000
/-! _law_heard. -/
namespace K6
open PySem PySem.Spec PyProof.Rows L2 RV EV He EF EI Hd LamX
theorem pss_of {X : Cx} {b : List Stmt} {t' : TS} (f : ∀ D σ H, t' D σ H → ∃ t, PSs X b t ∧ t D σ H) : PSs X b t' :=
  ⟨fun pins s σ H D I h => let ⟨_, p, q⟩ := f D σ H h; p.run pins s σ H D I q⟩
theorem takes_len {X : Cx} {W : WX} (tk : Takes X W) : Takes X (fun c d σ H => σ.length = X.N.length → W c d σ H) := fun u s' ⟨a, B, sI, pins, σ, H, cls, d, e, I, nb, up, sky, na, os, ag, wh⟩ =>
  tk u s' ⟨a, B, sI, pins, σ, H, cls, d, e, I, nb, up, sky, na, os, ag, wh I.len⟩
abbrev sHeard : Stmt := top 44
abbrev scHd_N : List Str := ["_law_ask", "_law_caught", "error"]
theorem scHd : FnScope scHd_N ["_law_ask"] (defScope sHeard) := ⟨rfl, rfl, rfl, by decide +kernel, rfl, by decide +kernel, by decide +kernel⟩
/-- the errors that _law_heard knows, and what it makes of each -/
def ErrH (K : PySem.W.Frag) (Q : VK) (cls : Value) (d : Option Addr) (H1 : Hp) : Prop :=
  (∃ dd v, cls = .ref (ga K "Unlike") ∧ d = some dd ∧ H1 dd = some (.xd [("part", v)]) ∧ ∀ r H2, Same H1 H2 → H2 r = some (.tup [.str "unlike", v]) → Q (.ref r) H2) ∨
  (∃ dd v u, cls = .ref (ga K "TooMany") ∧ d = some dd ∧ H1 dd = some (.xd [("most", u), ("what", v)]) ∧ ∀ r H2, Same H1 H2 → H2 r = some (.tup [v, u]) → Q (.ref r) H2) ∨
  (∃ dd x, cls = .ref (ga K "BadWay") ∧ d = some dd ∧ H1 dd = some (.xd [("value", .str x)]) ∧ (reprText x).length ≤ sizeLine ∧ ∀ r H2, Same H1 H2 → H2 r = some (.tup [.str "way", .str (reprText x)]) → Q (.ref r) H2)
def TTh (K : PySem.W.Frag) : (XK → Hp → VK → Prop) → Hp → VK → Prop := fun tl H Q =>
  tl (ErrH K Q) H fun v H1 => [v].length ≤ sizeLine ∧ ∀ l, H1 l = none → Q (.ref l) (upd H1 l (.lst [v]))
theorem err_inj {P : Program} {w : World} {K : PySem.W.Frag} {mg : Str → Option Value} {base : Heap} (T : KF P w K mg base) {q r : Str × List Str} (hq : q ∈ errsN) (hr : r ∈ errsN) (e : ga K q.1 = ga K r.1) : q = r := by
  have z : relB K = true := T.relb
  unfold relB at z
  obtain ⟨_, z⟩ := ba z
  obtain ⟨_, z⟩ := ba z
  obtain ⟨_, z⟩ := ba z
  obtain ⟨_, z⟩ := ba z
  exact map_inj (of_decide_eq_true (ba (ba z).2).1) hq hr e
theorem kit_no {P : Program} {w : World} {K : PySem.W.Frag} {mg : Str → Option Value} {base : Heap} (T : KF P w K mg base) {q r : Str × List Str} (hq : q ∈ errsN) (hr : r ∈ errsN) (h1 : r ≠ q) (h2 : r.1 ∉ q.2) (h3 : ∀ b ∈ q.2, ∃ bs, (b, bs) ∈ errsN) :
    PySem.W.kitOne K (.ref (ga K q.1)) (.ref (ga K r.1)) = some false := by
  refine (kit (T.ek q hq) (T.ek r hr)).trans (congrArg some (decide_eq_false fun z => ?_))
  rcases z with z | z
  · exact h1 (err_inj T hr hq z)
  · obtain ⟨b, hb, e⟩ := List.mem_map.mp z
    obtain ⟨bs, hbs⟩ := h3 b hb
    have := err_inj T hbs hr e
    exact h2 (by rw [← this]; exact hb)
theorem kit_yes {P : Program} {w : World} {K : PySem.W.Frag} {mg : Str → Option Value} {base : Heap} (T : KF P w K mg base) {q : Str × List Str} (hq : q ∈ errsN) : PySem.W.kitOne K (.ref (ga K q.1)) (.ref (ga K q.1)) = some true :=
  (kit (T.ek q hq) (T.ek q hq)).trans (by simp)
theorem above_in : ∀ b ∈ bM ++ bT, ∃ bs, (b, bs) ∈ errsN := by
  intro b hb
  have : b = "NoAnswer" ∨ b = "EditionError" ∨ b = "BadInput" := by
    have z : (bM ++ bT).all (fun b => decide (b = "NoAnswer") || (decide (b = "EditionError") || decide (b = "BadInput"))) = true := by decide +kernel
    have := List.all_eq_true.mp z b hb
    rcases Bool.or_eq_true_iff.mp this with h | h
    · exact .inl (of_decide_eq_true h)
    · rcases Bool.or_eq_true_iff.mp h with h | h
      · exact .inr (.inl (of_decide_eq_true h))
      · exact .inr (.inr (of_decide_eq_true h))
  rcases this with rfl | rfl | rfl
  · exact ⟨["EditionError"], by decide⟩
  · exact ⟨[], by decide⟩
  · exact ⟨["EditionError"], by decide⟩
theorem heard_gives {X : Cx} {q : Str} {f19 : Addr} {cdg : Value} (T : KF X.prog X.w X.K X.mg X.base) : GivesTo X scHd_N "_law_heard" (defScope sHeard) f19 cdg (defBody sHeard) "_law_ask" q (TTh X.K) := by
  intro f c' s H Q tl act hc h
  refine ⟨_, pss_cons (ps_set (i := 1) scHd.nd rfl (.inl rfl) pe_non) (pss_cons (ps_try_hold (X := (cxOf C8.CX0 X.prog X.w X.K X.mg X.base scHd_N "_law_heard" (defScope sHeard) f19 cdg X.A X.stack s H C8.E0).nox) (c := .ref (ga X.K "EditionError")) (i := 2)
      (tb := fun W D σ H => ∃ Ech : XK, (∀ cls d σ' H', σ'.length = scHd_N.length → Ech cls d H' → W cls d σ' H') ∧ σ[0]? = some (some (.ref f)) ∧ H c' = some (CodeO c' q) ∧ tl Ech H fun v H1 => [v].length ≤ sizeLine ∧ ∀ l, H1 l = none → D.rt (.ref l) (upd H1 l (.lst [v])))
      rfl rfl scHd.nd rfl rfl ⟨by rfl, by decide, .inl (T.gl ("EditionError", []) (by decide))⟩ rfl L2.takes0 (fun W pn xe tk _ => ?_) (fun a oe cls d pn _ _ => pss_one (ps_set (i := 1) scHd.nd rfl (.inl rfl) (pv 2))))
    (pss_cons (ps_if (pt_val (pe_callB call_isF (by rfl) (T.fr "isinstance" (by decide)) PyProof.Rows.boot_isinstance (pa_cons (pv 1) (pa_cons (pe_glob (v := .ref (ga X.K "Unlike")) (by rfl) T.un.gl rfl) pa_nil))))
        (pss_one (ps_ret (pe_tup (pa_cons pe_str (pa_cons (pe_ff (pv 1)) pa_nil))))) pss_nil)
    (pss_cons (ps_if (pt_val (pe_callB call_isF (by rfl) (T.fr "isinstance" (by decide)) PyProof.Rows.boot_isinstance (pa_cons (pv 1) (pa_cons (pe_glob (v := .ref (ga X.K "TooMany")) (by rfl) T.tm.gl rfl) pa_nil))))
        (pss_one (ps_ret (pe_tup (pa_cons (pe_ff (pv 1)) (pa_cons (pe_ff (pv 1)) pa_nil))))) pss_nil)
    (pss_one (ps_ret (pe_ifExp (pt_val (pe_callB call_isF (by rfl) (T.fr "isinstance" (by decide)) PyProof.Rows.boot_isinstance (pa_cons (pv 1) (pa_cons (pe_glob (v := .ref (ga X.K "BadWay")) (by rfl) T.bw.gl rfl) pa_nil))))
      (pe_tup (pa_cons pe_str (pa_cons (pe_callB Oo.call_repr_txt (by rfl) (T.fr "repr" (by decide)) PyProof.Rows.boot_repr (pa_cons (pe_ff (pv 1)) pa_nil)) pa_nil))) (pe_tup (pa_cons pe_str pa_nil))))))))  , ?_⟩
  · refine pss_of fun D σ H' h' => ?_
    obtain ⟨Ech, hW, h1, h2, h3⟩ := h'
    exact ⟨_, pss_one (ps_ret (pe_lst (pa_cons (act _ pn xe Ech _ _ (takes_len tk) fun cls d σ' H' e hl => hW cls d σ' H' hl e) pa_nil))), h1, h2, h3⟩
  · refine ⟨_, fun cls d σ' H' hl e => ?_, rfl, hc, h⟩
    have hl : σ'.length = 3 := hl
    rcases e with ⟨dd, v, rfl, rfl, hd, k⟩ | ⟨dd, v, u, rfl, rfl, hd, k⟩ | ⟨dd, x, rfl, rfl, hd, hz, k⟩
    · refine ⟨true, T.xE ("Unlike", bM) (by decide), (fun z => nomatch z), fun _ a na => ?_⟩
      have n1 : dd ≠ a := ne_of_none hd na
      have r : ErF (upd H' a (ExF (.ref (ga X.K "Unlike")) (some dd) a)) a (ga X.K "Unlike") dd [("part", v)] := ⟨upd_same, by rw [upd_ne n1]; exact hd⟩
      have E := T.ek ("Unlike", bM) (by decide)
      have g1 : (((σ'.set 2 (some (V.ref a))).set 1 (some (V.ref a))).set 2 none)[1]? = some (some (V.ref a)) := by simp [List.getElem?_set, hl]
      refine ⟨.ref a, by simp [List.getElem?_set, hl], ?_⟩
      refine ⟨.ref a, g1, a, ga X.K "Unlike", dd, _, .ref (ga X.K "Unlike"), _, true, rfl, r, E.ex, .own _, kit_yes T (q := ("Unlike", bM)) (by decide), true, rfl, if_posB rfl ?_⟩
      refine ⟨.ref a, g1, a, ga X.K "Unlike", dd, _, v, rfl, r, E.xf, T.un.no, rfl, by show 2 ≤ sizeLine; rw [sizeLine_eq]; decide, fun tp nt => ?_⟩
      exact k tp _ ((same_new na).trans (same_new nt)) upd_same
    · refine ⟨true, T.xE ("TooMany", bM) (by decide), (fun z => nomatch z), fun _ a na => ?_⟩
      have n1 : dd ≠ a := ne_of_none hd na
      have r : ErF (upd H' a (ExF (.ref (ga X.K "TooMany")) (some dd) a)) a (ga X.K "TooMany") dd [("most", u), ("what", v)] := ⟨upd_same, by rw [upd_ne n1]; exact hd⟩
      have E := T.ek ("TooMany", bM) (by decide)
      have g1 : (((σ'.set 2 (some (V.ref a))).set 1 (some (V.ref a))).set 2 none)[1]? = some (some (V.ref a)) := by simp [List.getElem?_set, hl]
      refine ⟨.ref a, by simp [List.getElem?_set, hl], ?_⟩
      refine ⟨.ref a, g1, a, ga X.K "TooMany", dd, _, .ref (ga X.K "Unlike"), _, false, rfl, r, E.ex, .own _, kit_no T (q := ("TooMany", bM)) (r := ("Unlike", bM)) (by decide) (by decide) (by decide) (by decide) (fun b hb => above_in b (List.mem_append_left _ hb)), false, rfl, if_negB rfl ?_⟩
      refine ⟨.ref a, g1, a, ga X.K "TooMany", dd, _, .ref (ga X.K "TooMany"), _, true, rfl, r, E.ex, .own _, kit_yes T (q := ("TooMany", bM)) (by decide), true, rfl, if_posB rfl ?_⟩
      refine ⟨.ref a, g1, a, ga X.K "TooMany", dd, _, v, rfl, r, E.xf, T.tm.no, rfl, .ref a, g1, a, ga X.K "TooMany", dd, _, u, rfl, r, E.xf, T.tm.no2, rfl, by show 2 ≤ sizeLine; rw [sizeLine_eq]; decide, fun tp nt => ?_⟩
      exact k tp _ ((same_new na).trans (same_new nt)) upd_same
    · refine ⟨true, T.xE ("BadWay", bT) (by decide), (fun z => nomatch z), fun _ a na => ?_⟩
      have n1 : dd ≠ a := ne_of_none hd na
      have r : ErF (upd H' a (ExF (.ref (ga X.K "BadWay")) (some dd) a)) a (ga X.K "BadWay") dd [("value", .str x)] := ⟨upd_same, by rw [upd_ne n1]; exact hd⟩
      have E := T.ek ("BadWay", bT) (by decide)
      have g1 : (((σ'.set 2 (some (V.ref a))).set 1 (some (V.ref a))).set 2 none)[1]? = some (some (V.ref a)) := by simp [List.getElem?_set, hl]
      refine ⟨.ref a, by simp [List.getElem?_set, hl], ?_⟩
      refine ⟨.ref a, g1, a, ga X.K "BadWay", dd, _, .ref (ga X.K "Unlike"), _, false, rfl, r, E.ex, .own _, kit_no T (q := ("BadWay", bT)) (r := ("Unlike", bM)) (by decide) (by decide) (by decide) (by decide) (fun b hb => above_in b (List.mem_append_right _ hb)), false, rfl, if_negB rfl ?_⟩
      refine ⟨.ref a, g1, a, ga X.K "BadWay", dd, _, .ref (ga X.K "TooMany"), _, false, rfl, r, E.ex, .own _, kit_no T (q := ("BadWay", bT)) (r := ("TooMany", bM)) (by decide) (by decide) (by decide) (by decide) (fun b hb => above_in b (List.mem_append_right _ hb)), false, rfl, if_negB rfl ?_⟩
      refine ⟨.ref a, g1, a, ga X.K "BadWay", dd, _, .ref (ga X.K "BadWay"), _, true, rfl, r, E.ex, .own _, kit_yes T (q := ("BadWay", bT)) (by decide), true, rfl, if_posB rfl ?_⟩
      refine ⟨.ref a, g1, a, ga X.K "BadWay", dd, _, .str x, rfl, r, E.xf, T.bw.no, rfl, x, rfl, hz, by show 2 ≤ sizeLine; rw [sizeLine_eq]; decide, fun tp nt => ?_⟩
      exact k tp _ ((same_new na).trans (same_new nt)) upd_same
end K6
set_option Elab.async false
set_option linter.all false
set_option maxRecDepth 100000
set_option maxHeartbeats 1000000
/-! [*x]: x an own object with __iter__ (a tuple's iterator) and __len__. -/
namespace Ow
open PySem PySem.Spec PyProof.Rows L2 PySem.W
/-- an empty list at S that none but this rule knows -/
def LsO (S : Addr) : HO := .ext fun h => ∃ c, h.get? S = some { cls := .type "list", data := .seq #[] c }
theorem star_own {X : Cx} {C f g a dx tp : Addr} {k k2 : Nat} {fd : FuncData} {sp : Sp} {fs : List (Str × V)} {xs : List V} {pins : List (Addr × Obj)} {σ : L2.St} {H : Hp} {s : Shared} {E : Value → Shared → Prop} {Q : List Value → Shared → Prop}
    (hc : X.calm = true) (I : Inv X pins σ H s) (hs : findIn X.K (.ref C) "__iter__" = some (some (.ref f))) (hf : isFn X.K (.ref f) = true) (hl : findIn X.K (.ref C) "__len__" = some (some (.ref g))) (hg : isFn X.K (.ref g) = true)
    (ea : H a = some (.ins C dx fs)) (ht : SqT X.K H tp xs) (hz : xs.length ≤ 1000) (hr : Room (k + 4) X.A)
    (FL : FnOk X.prog X.w X.K X.mg X.base CX0 k2 g fd ["self"] sp) (hb : Binds X.K fd ["self"] []) (hr2 : Room (k2 + 4) X.A) (hsp : ∀ H', (∀ c o, H c = some o → H' c = some o) → sp [.ref a] H' (fun v H2 => v = .int xs.length ∧ H2 = H') E0)
    (hit : ∀ H', (∀ c o, H c = some o → H' c = some o) → Gives1 { X with A := X.A.in1 } k f a tp H')
    (hQ : ∀ us s', Inv X pins σ H s' → Vals xs us → Q us s') : PySem.W.StarOf (model X.prog X.w) X.A E (.ref a) Q s := by
  obtain ⟨mA, O, _⟩ := ins_get I.hok ea
  obtain ⟨od, J, _⟩ := O.look
  have z : wpAny (model X.prog X.w) X.A (collect (.ref a)) Q E s := by
    unfold collect
    refine wpAny_bind (wpAny_runValue (codeAny_builtin F.entry_proto_collect ?_))
    rw [Around.under_plainId F.plain_proto_collect _]
    show wpAny _ X.A.in1 (newList [] >>= fun l => again (.builtin "list.__iadd__" ⟨[l, .ref a], []⟩)) _ _ s
    refine wpAny_bind (wpAny_newObj_type ?_)
    refine wpAny_pure ⟨plainId_quiet F.plain_list_iadd _, codeAny_builtin F.entry_list_iadd ?_⟩
    rw [Around.under_plainId F.plain_list_iadd _]
    show wpAny _ X.A.in1 (Builtin.List.listExtendWith (.ref s.heap.objs.size) (.ref a) (.ref s.heap.objs.size)) _ _ _
    have I1 : Inv X pins σ (upd H s.heap.objs.size (LsO s.heap.objs.size)) { s with heap := s.heap.push { cls := .type "list", data := .seq ([] : List Value).toArray } } := by
      have := I.laid (t' := s.toks) (a := s.heap.objs.size) (o := LsO s.heap.objs.size) (h' := s.heap.push { cls := .type "list", data := .seq ([] : List Value).toArray }) (fun b u e => Heap.get?_push_of_some _ e) (Nat.le_refl _) ⟨⟨0, Heap.get?_push_size _ rfl⟩, ⟨_, Heap.get?_push_size _ rfl⟩, fun _ _ ⟨c, e⟩ k => ⟨c, k _ e⟩⟩
      exact this
    obtain ⟨mA1, O1, _⟩ := ins_get I1.hok (a := a) (by rw [upd_ne (ne_of_none ea (I.hok.fresh (Nat.le_refl _)))]; exact ea)
    obtain ⟨od1, J1, _⟩ := O1.look
    unfold Builtin.List.listExtendWith
    refine wpAny_bind (J1.type.here ?_)
    have neS : s.heap.objs.size ≠ a := fun e => by
      have := I.hok.fresh (Nat.le_refl s.heap.objs.size)
      rw [e, ea] at this
      exact nomatch this
    have h1 : (Builtin.List.listSameRef (Value.ref s.heap.objs.size) (Value.ref a) || Value.ref C == Value.type "list" || Value.ref C == Value.type "tuple") = false := by
      have e0 : Builtin.List.listSameRef (Value.ref s.heap.objs.size) (Value.ref a) = false := by simp [Builtin.List.listSameRef, neS]
      rw [e0]
      rfl
    rw [if_neg (by rw [h1]; exact Bool.false_ne_true)]
    obtain ⟨m1, hF1⟩ := I1.fr
    have sub1 : ∀ c o, H c = some o → upd H s.heap.objs.size (LsO s.heap.objs.size) c = some o := fun c o e => by rw [upd_ne (ne_of_none e (I.hok.fresh (Nat.le_refl _)))]; exact e
    refine wpAny_bind (PySem.W.owit_iter hF1 I1.ok.mod.kin J1 hs hf (wpAny_call (codeAny_mono (hit _ sub1 _ I1.env0.in1 (hr.mono (by omega)).in1 I1.kIn) fun rs s2 hq => ?_)))
    cases rs with
    | error e => exact (show False from hq).elim
    | ok fl =>
      cases fl with
      | ret u =>
        obtain ⟨v, H2, I2, rv, it, rfl, hn, hzz, rfl⟩ := I1.after hq
        obtain rfl : u = Value.ref it := rv
        have ho : ObjOk X.prog X.w (upd (upd H s.heap.objs.size (LsO s.heap.objs.size)) it (TuO tp it)) s2.heap it (TuO tp it) := I2.hok it _ upd_same
        have st : s2.heap.IsTupleIter it tp 0 := ho.1
        unfold PySem.W.OwitIt
        have hT : s2.TypeIs (.ref it) "tuple_iterator" := let ⟨o, e1, e2, _⟩ := st; ⟨o, e1, e2⟩
        refine wpAny_specialOf hT PySem.F.slot_tuple_iterator_next.lookup ?_
        have ea2 : (upd (upd H s.heap.objs.size (LsO s.heap.objs.size)) it (TuO tp it)) a = some (.ins C dx fs) := by rw [upd_ne (ne_of_none (sub1 _ _ ea) hn)]; exact sub1 _ _ ea
        obtain ⟨mA2, O2, _⟩ := ins_get I2.hok ea2
        obtain ⟨od2, J2, _⟩ := O2.look
        refine wpAny_bind (wpAny_holding ?_)
        unfold Builtin.List.listLengthHint
        refine wpAny_bind (wpAny_bind (J2.type.here ((looks_findIn I2.kIn hl).here ?_)))
        dsimp only
        refine wpAny_ite_split (fun h => Bool.noConfusion (show false = true from h)) fun _ => ?_
        refine wpAny_ite_split (fun _ => ?_) fun h => absurd rfl h
        refine wpAny_bind (wpAny_rule ?_)
        obtain ⟨m2, hF2⟩ := I2.fr
        have sub2 : ∀ c o, H c = some o → (upd (upd H s.heap.objs.size (LsO s.heap.objs.size)) it (TuO tp it)) c = some o := fun c o e => by rw [upd_ne (ne_of_none (sub1 _ _ e) hn)]; exact sub1 _ _ e
        refine wpAny_bind (wpAny_attempt (PySem.W.len_K hF2 I2.ok.mod.kin J2 hl hg (wpAny_call (codeAny_mono (FL.run X.A.in1.in1 X.stack s2 _ ⟨[.ref a], []⟩ [.ref a] [.ref a] _ E0 (hr2.mono (by omega)).in1.in1 I2.env0.in1.in1 (by
          have := hb s2 [.ref a] I2.kIn rfl
          simpa using this) (.cons rfl .nil) (hsp _ sub2)) fun rs s3 hq => ?_))))
        cases rs with
        | error e => exact (show False from hq).elim
        | ok fl =>
          cases fl with
          | ret u =>
            obtain ⟨v, H3, I3, rv, rfl, rfl⟩ := I2.after hq
            obtain ⟨t, rfl⟩ := rv
            refine ⟨⟨by omega, by omega⟩, ?_⟩
            dsimp only
            refine wpAny_bind (wpAny_pure ?_)
            dsimp only
            refine wpAny_ite_split (fun h => ?_) fun _ => wpAny_pure ?_
            · have h2 : decide ((xs.length : Int).toNat > sizeLine) = true := h
              have := of_decide_eq_true h2
              rw [sizeLine_eq] at this
              omega
            · have n0S : X.s_0.heap.get? s.heap.objs.size = none := by
                cases e : X.s_0.heap.get? s.heap.objs.size with
                | none => rfl
                | some o => exact absurd (Heap.lt_size e) (Nat.not_lt.mpr I.sz)
              have le1 : s.heap.objs.size ≤ it := Nat.le_trans (by show s.heap.objs.size ≤ (s.heap.push _).objs.size; rw [Heap.size_push]; exact Nat.le_succ _) hzz
              have n0I : X.s_0.heap.get? it = none := by
                cases e : X.s_0.heap.get? it with
                | none => rfl
                | some o => exact absurd (Heap.lt_size e) (Nat.not_lt.mpr (Nat.le_trans I.sz le1))
              have hnH : H it = none := I.hok.fresh le1
              have hnS : H s.heap.objs.size = none := I.hok.fresh (Nat.le_refl _)
              have neIS : s.heap.objs.size ≠ it := fun e => by
                rw [← e, upd_same] at hn
                exact nomatch hn
              have J3 : Inv X pins σ H s3 := by
                have a1 := forget I3 upd_same n0I
                rw [delH_new hn] at a1
                have a2 := forget a1 upd_same n0S
                rw [delH_new hnS] at a2
                exact a2
              have hoS : ∃ c, s3.heap.get? s.heap.objs.size = some { cls := .type "list", data := .seq #[] c } := by
                have q : ObjOk X.prog X.w (upd (upd H s.heap.objs.size (LsO s.heap.objs.size)) it (TuO tp it)) s3.heap s.heap.objs.size (LsO s.heap.objs.size) := I3.hok _ _ (by rw [upd_ne neIS, upd_same])
                exact q.1
              have hoI : s3.heap.IsTupleIter it tp 0 := by
                have q : ObjOk X.prog X.w (upd (upd H s.heap.objs.size (LsO s.heap.objs.size)) it (TuO tp it)) s3.heap it (TuO tp it) := I3.hok it _ upd_same
                exact q.1
              obtain ⟨its, rvs, pl, hzs⟩ := J3.tuple ht
              obtain ⟨c0, hc0⟩ := hoS
              have neT : tp ≠ it := fun e => by
                obtain ⟨o, e1, e2, e3⟩ := hoI
                obtain ⟨o2, f1, f2, _⟩ := (show s3.heap.IsTuple tp its.toArray from pl)
                rw [e, e1] at f1
                cases f1
                rw [e2] at f2
                exact absurd f2 (by decide)
              have neTS : tp ≠ s.heap.objs.size := fun e => by
                obtain ⟨o2, f1, f2, _⟩ := (show s3.heap.IsTuple tp its.toArray from pl)
                rw [e, hc0] at f1
                cases f1
                have f3 : Value.type "list" = Value.type "tuple" := f2
                exact absurd f3 (by decide)
              have loop : ∀ (h5 : Heap) (c : Nat) (R : Result → Shared → Prop), h5.get? s.heap.objs.size = some { cls := .type "list", data := .seq #[] c } → (∀ b o, b ≠ s.heap.objs.size → s3.heap.get? b = some o → h5.get? b = some o) →
                  (∀ s' us c', Inv X pins σ H s' → Vals xs us → s'.heap.get? s.heap.objs.size = some { cls := .type "list", data := .seq us.toArray c' } → R (.ok (.ret (.ref s.heap.objs.size))) s') →
                  codeAny (model X.prog X.w) X.A (.builtin "list.extend.loop" ⟨[.ref s.heap.objs.size, .ref it, .ref s.heap.objs.size], []⟩) R { s3 with heap := h5, toks := s3.toks + 1 } := by
                intro h5 c R hS5 oth hR
                have hh : X.A.in1.handled = none := J3.ok.hd hc
                refine codeAny_extend_loopS (Walks.tuple (prog := X.prog) (w := X.w) (A := X.A.in1) hh it tp neT its.toArray).toS (by rw [List.size_toArray, ← rvs.length, sizeLine_eq]; omega) s.heap.objs.size (by simp [neIS, neTS.symm]) _ its.toArray.size 0 _ #[] c rfl (Nat.zero_le _)
                  ⟨hoI.at fun o e => oth _ _ neIS.symm e, Heap.IsTuple.at (show s3.heap.IsTuple tp its.toArray from pl) fun o e => oth _ _ neTS e⟩ hS5 (ItemsOf.nil _) fun s' acc' c' hm hS' hacc => ?_
                have eacc : acc' = its.toArray := by
                  refine Array.ext hacc.1 fun j h1 h2 => ?_
                  have q : its.toArray[j]? = some acc'[j] := hacc.2 j acc'[j] (by simp [h1])
                  rw [Array.getElem?_eq_getElem h2] at q
                  exact (Option.some.inj q).symm
                rw [eacc] at hS'
                have mv := hm.heap
                have e1 : s'.gens = s3.gens := hm.gens
                have e2 : s'.drawn = s3.drawn := hm.drawn
                have e3 : s'.os = s3.os := hm.os
                have es : s' = { s3 with heap := s'.heap, toks := s'.toks } := by
                  obtain ⟨h', g', d', t', o'⟩ := s'
                  subst e1 e2 e3
                  rfl
                refine hR s' its c' ?_ rvs hS'
                rw [es]
                refine J3.turnedL (ch := [s.heap.objs.size, it]) (t' := s'.toks) (h' := s'.heap) (fun b o hb e => ?_) fun b hb => ?_
                · have nS : b ≠ s.heap.objs.size := fun e => hb (by rw [e]; exact List.mem_cons_self)
                  exact mv b o hb (oth b o nS e)
                · rcases List.mem_cons.mp hb with rfl | hb
                  · exact I.fpOk (Nat.le_refl _) hnS
                  · rw [List.mem_singleton.mp hb]
                    exact I.fpOk le1 hnH
              refine wpAny_ite_split (fun _ => ?_) fun _ => ?_
              · refine wpAny_bind (wpAny_rule ?_)
                unfold Builtin.List.listTouch
                refine wpAny_bind (wpAny_bind (wpAny_updateSeq hc0 rfl ?_))
                have e1 := Heap.get?_update_self (Obj.mapSeq (·.push .none)) hc0 rfl
                refine wpAny_updateSeq e1 rfl ?_
                have e2 := Heap.get?_update_self (Obj.mapSeq (·.pop)) e1 rfl
                refine wpAny_pure ⟨plainId_quiet F.plain_extend_loop _, loop _ _ _ (by rw [e2]; rfl) (fun b o hb e => ?_) fun s' us c' I' rv hS' => ?_⟩
                · exact (Heap.get?_update_other _ _ hb.symm).trans ((Heap.get?_update_other _ _ hb.symm).trans e)
                · show wpAny _ X.A (load s.heap.objs.size >>= _) _ _ s'
                  refine wpAny_bind (wpAny_load hS' ?_)
                  exact wpAny_pure (hQ us s' I' rv)
              · refine wpAny_pure ⟨plainId_quiet F.plain_extend_loop _, loop s3.heap c0 _ hc0 (fun _ _ _ e => e) fun s' us c' I' rv hS' => ?_⟩
                show wpAny _ X.A (load s.heap.objs.size >>= _) _ _ s'
                refine wpAny_bind (wpAny_load hS' ?_)
                exact wpAny_pure (hQ us s' I' rv)
          | next => exact False.elim hq
          | brk => exact False.elim hq
          | cont => exact False.elim hq
      | next => exact False.elim hq
      | brk => exact False.elim hq
      | cont => exact False.elim hq
  unfold PySem.W.StarOf notIterableAtAll
  refine wpAny_bind (wpAny_bind (J.type.here ((looks_findIn I.kIn hs).here ?_)))
  exact wpAny_pure ⟨rfl, z⟩
end Ow
set_option Elab.async false
set_option linter.all false
set_option maxRecDepth 100000
set_option maxHeartbeats 1000000
/-! x + y, x of an own class with the sign, y of another own class that has neither it nor its reflected form, or of a built-in kind. -/
namespace Oo
open PySem PySem.Spec PyProof.Rows L2 PySem.W
section
variable {M : Model} {h : Heap} {K : Frag} {D : Addr}
theorem noFills {nm : String} (X : K.In h) (hmro : ((clsIn K D).any fun cd => decide (cd.mro = [.ref D, .type "object"])) = true) (h1 : findIn K (.ref D) (PySem.dunder nm) = some none) (h2 : findIn K (.ref D) (dunderR nm) = some none)
    (o1 : typeLookup (.type "object") (PySem.dunder nm) = pure none) (o2 : typeLookup (.type "object") (dunderR nm) = pure none) : Looks M h (fillsNumberSlot (.ref D) nm) false := by
  intro A Q E s k q
  obtain ⟨cd, hc, hm⟩ := any_some hmro
  have hm := of_decide_eq_true hm
  unfold fillsNumberSlot
  refine wpAny_bind ((looks_clsIn X hc).andThen (f := fun cd => pure cd.mro) .now A _ E s k ?_)
  rw [hm, List.anyM_cons]
  refine wpAny_bind ?_
  show wpAny M A (List.anyM _ [PySem.dunder nm, dunderR nm]) _ _ _
  rw [List.anyM_cons]
  refine wpAny_bind (wpAny_bind (looks_findIn X h1 A _ E s k ?_))
  refine wpAny_pure ?_
  simp only [Bool.false_eq_true, if_false]
  rw [List.anyM_cons]
  refine wpAny_bind (wpAny_bind (looks_findIn X h2 A _ E s k ?_))
  refine wpAny_pure ?_
  simp only [Bool.false_eq_true, if_false, List.anyM_nil]
  refine wpAny_pure ?_
  simp only [Bool.false_eq_true, if_false]
  rw [List.anyM_cons]
  refine wpAny_bind ?_
  rw [o1, o2]
  refine wpAny_bind (wpAny_pure (wpAny_bind (wpAny_pure (wpAny_pure ?_))))
  simp only [Option.isSome_none, Bool.false_and, Bool.or_false, Bool.false_eq_true, if_false, List.anyM_nil]
  exact wpAny_pure q
end
section
variable {prog : Program} {w : World} {A : Around} {E : Value → Shared → Prop} {s : Shared} {K : Frag} {x C D f : Addr} {ox : Obj} {od : Option Obj}
theorem binop_D {op : Operator} {b : Value} {Q : Value → Shared → Prop} (X : K.In s.heap) (I : InstAt s.heap x ox C od) (hb : Looks (model prog w) s.heap (typeOf b) (.ref D)) (ne : C ≠ D) (hc : selfFirst K C = true)
    (hs : findIn K (.ref C) (PySem.dunder op.info.2) = some (some (.ref f))) (hD : Looks (model prog w) s.heap (fillsNumberSlot (.ref D) op.info.2) false) (hf : isFn K (.ref f) = true)
    (h : wpAny (model prog w) A (call (.ref f) [.ref x, b]) (W.CmpBack Q) E s) : wpAny (model prog w) A (binaryOp op (.ref x) b) Q E s := by
  obtain ⟨cd, hcd, hm⟩ := any_some hc
  have hm2 : ∃ l, cd.mro = .ref C :: l := by
    rcases e : cd.mro with _ | ⟨c0, l⟩
    · rw [e] at hm; exact nomatch hm
    · rw [e, List.head?_cons] at hm
      exact ⟨l, by rw [Option.some.inj (beq_iff_eq.mp hm)]⟩
  obtain ⟨l, hm2⟩ := hm2
  have one : wpAny (model prog w) A (tryMethod (.ref x) (PySem.dunder op.info.2) b) (fun z s' => ∃ v, z = some v ∧ Q v s') E s := by
    unfold tryMethod
    refine wpAny_bind (special_fn X I hs (beq_iff_eq.mp hf) (wpAny_mono h (fun v s' hv => ?_) fun _ _ e => e))
    cases v <;> first | exact hv.elim | exact wpAny_pure ⟨_, rfl, hv⟩
  have bin1 : wpAny (model prog w) A (binaryOp1 op.info.2 (.ref x) b) (fun z s' => ∃ v, z = some v ∧ Q v s') E s := by
    unfold binaryOp1
    refine wpAny_bind (I.type.here (wpAny_bind (hb.here (wpAny_bind ((fills_K X hcd hm2 hs).here ?_)))))
    have e0 : ((Value.ref C) == (Value.ref D)) = false := by
      rw [beq_eq_false_iff_ne]
      intro z
      exact ne (Value.ref.inj z)
    simp only [e0, if_false, Bool.false_eq_true]
    refine wpAny_bind (hD.here ?_)
    simp only [Bool.and_false, Bool.false_eq_true, if_false, Bool.false_and]
    refine wpAny_bind (wpAny_pure ?_)
    simp only [Bool.false_eq_true, if_false, if_true]
    refine wpAny_bind (wpAny_mono one (fun z s' hz => ?_) fun _ _ e => e)
    obtain ⟨v, rfl, q⟩ := hz
    exact wpAny_pure ⟨v, rfl, q⟩
  unfold binaryOp
  refine wpAny_holding (wpAny_bind (m := binaryOp1 op.info.2 (.ref x) b) (wpAny_mono bin1 (fun z s' hz => ?_) fun _ _ e => e))
  obtain ⟨v, rfl, q⟩ := hz
  exact wpAny_pure q
end
theorem looks_add : (kindsT.all fun t => (builtinLookup t (PySem.dunder "add")).isSome && (builtinLookup t (dunderR "add")).isSome) = true := by decide +kernel
theorem kindAdd {T : String} (hT : T ∈ kindsT) : KindOp "add" T := by
  have h := List.all_eq_true.mp looks_add T hT
  obtain ⟨h1, h2⟩ := Bool.and_eq_true_iff.mp h
  obtain ⟨f, hf⟩ := look_some h1
  obtain ⟨r, hr⟩ := look_some h2
  refine ⟨⟨(f.isSome && !isSeqSlot f) || (r.isSome && !isSeqSlot r), ?_⟩, r, hr⟩
  simp only [fillsNumberSlot, hf, hr, pure_bind]
theorem no_add : typeLookup (.type "object") (PySem.dunder "add") = pure none ∧ typeLookup (.type "object") (dunderR "add") = pure none ∧ typeLookup (.type "object") (dunderI "add") = pure none := by
  refine ⟨?_, ?_, ?_⟩ <;> (rw [typeLookup_type, show builtinLookup "object" _ = some none from by decide +kernel])
section
variable {X : Cx} {CX : CXT} {k : Nat} {C f : Addr} {sp : Sp} {E : XK}
/-- what the class of y may be in x + y -/
def okAdd (K : Frag) (C : Addr) (t : Value) : Prop := t = .ref C ∨ (∃ T ∈ kindsT, t = .type T) ∨ ∃ D, t = .ref D ∧ C ≠ D ∧ ((clsIn K D).any fun cd => decide (cd.mro = [.ref D, .type "object"])) = true ∧ findIn K (.ref D) (PySem.dunder "add") = some none ∧ findIn K (.ref D) (dunderR "add") = some none
theorem op_add (c : OpC X.K C f "add") (F : FnR X.prog X.w X.K X.mg X.base CX k f sp) (hr : Room k X.A) (hx : Passes CX X E) : OpR X (binaryOp .Add) (rOwn2 X.K C (okAdd X.K C) sp E) := by
  intro pins s σ H x y v u Q I rx ry h
  obtain ⟨a, dx, fs, t, rfl, ea, ty, ok, q⟩ := h
  obtain rfl : v = Value.ref a := rx
  have back : wpAny (model X.prog X.w) X.A (call (.ref f) [.ref a, u]) (W.CmpBack (EP X pins σ Q)) X.xe s := thn (wpAny_call (run_fnR (us := [.ref a, u]) (vs := [.ref a, y]) F hr hx I (.cons rfl (.cons ry .nil)) q)) fun z s' hz => by
    obtain ⟨w, H', I', rw', q'⟩ := hz
    exact back_of rw' ⟨w, H', I', rw', q'⟩
  obtain ⟨mA, O, _⟩ := ins_get I.hok ea
  obtain ⟨od, J, _⟩ := O.look
  rcases ok with rfl | ⟨T, hT, rfl⟩ | ⟨D, rfl, ne, hm, h1, h2⟩
  · exact op_binO (op := .Add) c.mt c.sf F hr hx pins s σ H (.ref a) y _ u Q I (show RelV (V.ref a) (Value.ref a) from rfl) ry ⟨a, dx, fs, _, rfl, ea, ty, rfl, q⟩
  · exact binop_T (op := .Add) I.kIn J (looks_ty I ry ty) c.sf c.mt.at_ c.nr (c.sub T hT) c.mt.fn (kindAdd hT) back
  · exact binop_D (op := .Add) I.kIn J (looks_ty I ry ty) ne c.sf c.mt.at_ (noFills I.kIn hm h1 h2 no_add.1 no_add.2.1) c.mt.fn back
end
end Oo
set_option Elab.async false
set_option linter.all false
set_option maxRecDepth 100000
set_option maxHeartbeats 1000000
/-! [*x] of a lot; Note.__add__. -/
namespace K6
open PySem PySem.Spec PyProof.Rows L2 RV EV He EF EI
def tStarL (K : PySem.W.Frag) (te : TE) (t : TA) : TA := fun σ H Q => te σ H fun x H1 => ∃ p ns, x = V.ref p ∧ IsLot K H1 p ns ∧ t σ H1 fun ys H2 => Q (ns.map V.str ++ ys) H2
theorem pa_starL {X : Cx} {e : Expr} {es : List Expr} {te : TE} {t : TA} {p : Pos} (T : KF X.prog X.w X.K X.mg X.base) (hc : X.calm = true) (hr : Room 6 X.A) (he : PE X e te) (ha : PA X es t) (hs : starEach (.Starred e p :: es) X.env = (true, eval e X.env) :: starEach es X.env := by rfl) :
    PA X (.Starred e p :: es) (tStarL X.K te t) := by
  obtain ⟨_, fl, Fl⟩ := T.lot ("__len__", 7) (by decide)
  have bl : L2.Binds X.K fl ["self"] [] := FunD.bindsN Fl fun _ _ _ _ _ _ us hl => match us, hl with | [_], _ => rfl
  have m1 := lm T ("__iter__", 8) (by decide)
  have m2 := lm T ("__len__", 7) (by decide)
  refine ⟨fun pos pins s σ H Q I h => ?_⟩
  refine PySem.W.items_star (thn (he.run pins s σ H _ I h) fun v s1 ⟨y, H1, I1, ry, a, ns, ey, ⟨dx, tp, O⟩, q⟩ => ?_) hs
  subst ey
  obtain rfl : v = Value.ref a := ry
  have le8 := O.le
  refine Ow.star_own (k := 1) (k2 := 1) hc I1 m1.at_ m1.fn m2.at_ m2.fn O.ob (SqT.of O.ps) (by rw [List.length_map]; omega) (hr.mono (by decide)) (ok_lenL T Fl) bl (hr.mono (by decide)) (fun H' s' => ?_) (fun H' s' => gives_iterL (X := { X with A := X.A.in1 }) T (O.same s')) fun us s2 I2 rv => ?_
  · exact ⟨a, ns, rfl, ⟨dx, tp, O.same s'⟩, by rw [List.length_map], rfl⟩
  · exact thn (ha.run pos pins s2 σ H1 _ I2 q) fun ws s3 ⟨vs, H3, I3, r3, q3⟩ => ⟨ns.map V.str ++ vs, H3, I3, rv.append r3, q3⟩
abbrev aSt : Stmt := nSt 6
abbrev scAd_N : List Str := ["self", "other", "gained", "lost", "fix"]
theorem scAd : FnScope scAd_N ["self", "other"] (defScope aSt) := ⟨rfl, rfl, rfl, by decide +kernel, rfl, by decide +kernel, by decide +kernel⟩
section
variable {P : Program} {w : World} {K : PySem.W.Frag} {mg : Str → Option Value} {base : Heap}
theorem mem_without {x : Str} {xs ys : List Str} : x ∈ without xs ys ↔ x ∈ xs ∧ x ∉ ys := by
  unfold without
  rw [List.mem_filter]
  by_cases h : x ∈ ys <;> simp [h]
theorem apart_without {xs ys : List Str} : apartB (lined (without xs ys)) (lined (without ys xs)) = true := by
  rw [apart_iff]
  intro x hx hy
  rw [mem_lined, mem_without] at hx hy
  exact hx.2 hy.1
theorem any_apart {xs ys : List Str} {b : Bool} (h : apartB xs ys = b) : (xs.any fun x => decide (x ∈ ys)) = !b := by
  unfold apartB at h
  rw [← h, Bool.not_not]
theorem c_wo (T : KF P w K mg base) : Callee P w K mg base (L2.CX P w) 7 "fixes_without" ["fixes", "out"] (spWo K) := by
  obtain ⟨fd, F, g⟩ := T.tops ("fixes_without", 37) (by decide)
  exact ⟨fd, ok_wo T F, FunD.bindsN F fun _ _ _ _ _ _ us hl => match us, hl with | [_, _], _ => rfl, F.kp, g⟩
/-- what is got of two notes together -/
structure AddR (K : PySem.W.Frag) (E : XK) (Q : VK) (ga lo gb lb : List Str) (H : Hp) : Prop where
  un : apartB ga gb = false ∨ apartB lo lb = false → ∀ H', Same H H' → Bad1 (He.ga K "Unlike") "part" H' E (.str "fix")
  ok : apartB ga gb = true → apartB lo lb = true → (lined (without (ga ++ gb) (lo ++ lb))).length ≤ 8 → (lined (without (lo ++ lb) (ga ++ gb))).length ≤ 8 → ∀ x H', Same H H' → IsNote K H' x (lined (without (ga ++ gb) (lo ++ lb))) (lined (without (lo ++ lb) (ga ++ gb))) → Q (.ref x) H'
  big : apartB ga gb = true → apartB lo lb = true → 8 < (lined (without (ga ++ gb) (lo ++ lb))).length ∨ 8 < (lined (without (lo ++ lb) (ga ++ gb))).length → ∀ H', Same H H' → Bad2 (He.ga K "TooMany") "what" "most" H' E (.str "fixes") (.int 8)
def spAdd (K : PySem.W.Frag) : Sp := fun vs H Q E => ∃ p ga lo v, vs = [.ref p, v] ∧ IsNote K H p ga lo ∧ ((∃ q gb lb, v = .ref q ∧ IsNote K H q gb lb ∧ AddR K E Q ga lo gb lb H) ∨ ((∃ t, TyX K H v t ∧ PySem.W.kitOne K t (.ref (gNo K)) = some false) ∧ Bad1 (He.ga K "BadWay") "value" H E (.str "other")))
theorem ok_add (T : KF P w K mg base) {fd : FuncData} (F : FunD K "__add__" "Note.__add__" (defArgs aSt) (defBody aSt) (defScope aSt) [] [] (ma K (gNo K) "__add__") fd) : FnOk P w K mg base (L2.CX P w) 9 (ma K (gNo K) "__add__") fd ["self", "other"] (spAdd K) := by
  obtain ⟨fn, Gn, bn, mn, gn⟩ := mk_note (w := w) T
  obtain ⟨fw, Gw, bw, kw, gw⟩ := c_wo (w := w) T
  refine F.ok scAd (fun vs H Q E h => ?_) (fun cdv A outer s H vs Q E hr h => ?_)
  · obtain ⟨p, ga, lo, v, rfl, _⟩ := h
    rfl
  · obtain ⟨p, ga, lo, v, rfl, N, k⟩ := h
    have hp : Passes (L2.CX P w) (cxOf (L2.CX P w) P w K mg base scAd_N "Note.__add__" (defScope aSt) (ma K (gNo K) "__add__") cdv A outer s H E) E := passes_call (takes_of rfl rfl rfl rfl) fun _ _ _ _ h => h
    refine ⟨_, pss_cons (ps_if (pt_not (pt_val (pe_callB call_isi (by rfl) (T.fr "isinstance" (by decide)) PyProof.Rows.boot_isinstance (pa_cons (pv 1) (pa_cons (pe_glob (v := .ref (gNo K)) (by rfl) (T.gk ("Note", 39) (by decide)).1 rfl) pa_nil)))))
        (pss_one (ps_raise1 T.bw (hr.mono (by decide)) rfl (takes_of rfl rfl rfl rfl) (by rfl) pe_str)) pss_nil)
      (pss_cons (ps_if (PW.pt (pw_or (pt_val (pe_callB (cr_any rfl) (by rfl) (T.fr "any" (by decide)) boot_any (pa_cons (pe_lc (own := [("fix", 4)]) (g := gName 4) (tt := tYes) (te := tOp (Oo.rInO (gO K) (fun b => b) (spCoL K) E0) (tVar 4) (tFld K (tVar 1) "gained")) rfl scAd.nd
            (Ow.pi_own (k := 1) (pe_fld (pv 0) rfl) (lm T ("__iter__", 8) (by decide)).at_ (lm T ("__iter__", 8) (by decide)).fn (hr.mono (by decide)))
            (blkOk_by (N := scAd_N) (sc := defScope aSt) (by decide +kernel)) (fun _ _ _ _ _ => pg_name (i := 4) scAd.nd rfl (.inl rfl)) (fun _ _ _ _ _ => pts_nil)
            (fun _ _ _ _ _ => pe_cmpR (Oo.op_inO (lm T ("__contains__", 6) (by decide)) (r_co T) (hr.mono (by decide)) pass0) (pv 4) (pe_fld (pv 1) rfl) rfl)) pa_nil)))
          (pw_or1 (pt_val (pe_callB (cr_any rfl) (by rfl) (T.fr "any" (by decide)) boot_any (pa_cons (pe_lc (own := [("fix", 4)]) (g := gName 4) (tt := tYes) (te := tOp (Oo.rInO (gO K) (fun b => b) (spCoL K) E0) (tVar 4) (tFld K (tVar 1) "lost")) rfl scAd.nd
            (Ow.pi_own (k := 1) (pe_fld (pv 0) rfl) (lm T ("__iter__", 8) (by decide)).at_ (lm T ("__iter__", 8) (by decide)).fn (hr.mono (by decide)))
            (blkOk_by (N := scAd_N) (sc := defScope aSt) (by decide +kernel)) (fun _ _ _ _ _ => pg_name (i := 4) scAd.nd rfl (.inl rfl)) (fun _ _ _ _ _ => pts_nil)
            (fun _ _ _ _ _ => pe_cmpR (Oo.op_inO (lm T ("__contains__", 6) (by decide)) (r_co T) (hr.mono (by decide)) pass0) (pv 4) (pe_fld (pv 1) rfl) rfl)) pa_nil))))))
        (pss_one (ps_raise1 T.un (hr.mono (by decide)) rfl (takes_of rfl rfl rfl rfl) (by rfl) pe_str)) pss_nil)
      (pss_cons (ps_set (i := 2) scAd.nd rfl (.inl rfl) (pe_lst (pa_starL T rfl (hr.mono (by decide)) (pe_fld (pv 0) rfl) (pa_starL T rfl (hr.mono (by decide)) (pe_fld (pv 1) rfl) pa_nil))))
      (pss_cons (ps_set (i := 3) scAd.nd rfl (.inl rfl) (pe_lst (pa_starL T rfl (hr.mono (by decide)) (pe_fld (pv 0) rfl) (pa_starL T rfl (hr.mono (by decide)) (pe_fld (pv 1) rfl) pa_nil))))
      (pss_one (ps_ret (pe_make (E := E) mn Gn (hr.mono (by decide)) (by rfl) gn bn .nil hp
        (pa_cons (pe_call (E := E) Gw (hr.mono (by decide)) (by rfl) gw kw bw .nil hp (pa_cons (pv 2) (pa_cons (pv 3) pa_nil)))
          (pa_cons (pe_call (E := E) Gw (hr.mono (by decide)) (by rfl) gw kw bw .nil hp (pa_cons (pv 3) (pa_cons (pv 2) pa_nil))) pa_nil)))))))), ?_⟩
    rcases k with ⟨q, gb, lb, rfl, M, AR⟩ | ⟨⟨t, ty, kt⟩, bd⟩
    · obtain ⟨dx, g, l, N⟩ := N
      obtain ⟨dy, g2, l2, M⟩ := M
      refine ⟨_, rfl, .ref q, .ref (gNo K), _, _, true, rfl, .own _, ty_note T M.ob, (kits T).nn, true, rfl, if_negB rfl ?_⟩
      show tAny (cxOf (L2.CX P w) P w K mg base scAd_N "Note.__add__" (defScope aSt) (ma K (gNo K) "__add__") cdv A outer s H E) 4 (tFld K (tVar 0) "gained") (tFld K (tVar 1) "gained") [some (.ref p), some (.ref q), none, none, none] H _
      refine any_read (X := cxOf (L2.CX P w) P w K mg base scAd_N "Note.__add__" (defScope aSt) (ma K (gNo K) "__add__") cdv A outer s H E) (ti := tFld K (tVar 0) "gained") (tj := tFld K (tVar 1) "gained") (i := 4) (σ := [some (.ref p), some (.ref q), none, none, none]) T N.g M.g (fun R r => ⟨_, rfl, p, gNo K, dx, _, _, rfl, N.ob, cls_note T, T.noGa, rfl, r⟩)
        (fun z H' R s' r => ⟨_, rfl, q, gNo K, dy, _, _, rfl, s' _ _ M.ob, cls_note T, T.noGa, rfl, r⟩) (fun _ => rfl) (fun _ => rfl) fun H1 s1 => ⟨_, rfl, ?_⟩
      cases e1 : apartB ga gb with
      | false => exact if_posB (any_apart e1) (if_posB rfl (mkb1 (AR.un (.inl e1) H1 s1)))
      | true =>
        refine if_negB (any_apart e1) ?_
        have N1 := N.same s1
        have M1 := M.same s1
        show tAny (cxOf (L2.CX P w) P w K mg base scAd_N "Note.__add__" (defScope aSt) (ma K (gNo K) "__add__") cdv A outer s H E) 4 (tFld K (tVar 0) "lost") (tFld K (tVar 1) "lost") [some (.ref p), some (.ref q), none, none, none] H1 _
        refine any_read (X := cxOf (L2.CX P w) P w K mg base scAd_N "Note.__add__" (defScope aSt) (ma K (gNo K) "__add__") cdv A outer s H E) (ti := tFld K (tVar 0) "lost") (tj := tFld K (tVar 1) "lost") (i := 4) (σ := [some (.ref p), some (.ref q), none, none, none]) T N1.l M1.l (fun R r => ⟨_, rfl, p, gNo K, dx, _, _, rfl, N1.ob, cls_note T, T.noLs, rfl, r⟩)
          (fun z H' R s' r => ⟨_, rfl, q, gNo K, dy, _, _, rfl, s' _ _ M1.ob, cls_note T, T.noLs, rfl, r⟩) (fun _ => rfl) (fun _ => rfl) fun H2 s2 => ⟨_, rfl, ?_⟩
        have s12 := s1.trans s2
        cases e2 : apartB lo lb with
        | false => exact if_posB (any_apart e2) (mkb1 (AR.un (.inr e2) H2 s12))
        | true =>
          refine if_negB (any_apart e2) ?_
          have N2 := N.same s12
          have M2 := M.same s12
          obtain ⟨dg, tg, G⟩ := N2.g
          obtain ⟨dl, tl, L⟩ := N2.l
          obtain ⟨dg2, tg2, G2⟩ := M2.g
          obtain ⟨dl2, tl2, L2'⟩ := M2.l
          have z1 := G.le
          have z2 := L.le
          have z3 := G2.le
          have z4 := L2'.le
          refine ⟨_, rfl, p, gNo K, dx, _, _, rfl, N2.ob, cls_note T, T.noGa, rfl, g, ga, rfl, N2.g, _, rfl, q, gNo K, dy, _, _, rfl, M2.ob, cls_note T, T.noGa, rfl, g2, gb, rfl, M2.g, ?_, fun a1 n1 => ?_⟩
          · rw [List.append_nil, List.length_append, List.length_map, List.length_map, sizeLine_eq]
            omega
          have s3 := same_new (o := .lst (ga.map V.str ++ (gb.map V.str ++ []))) n1
          have N3 := N2.same s3
          have M3 := M2.same s3
          refine ⟨_, rfl, p, gNo K, dx, _, _, rfl, N3.ob, cls_note T, T.noLs, rfl, l, lo, rfl, N3.l, _, rfl, q, gNo K, dy, _, _, rfl, M3.ob, cls_note T, T.noLs, rfl, l2, lb, rfl, M3.l, ?_, fun a2 n2 => ?_⟩
          · rw [List.append_nil, List.length_append, List.length_map, List.length_map, sizeLine_eq]
            omega
          have s4 := same_new (o := .lst (lo.map V.str ++ (lb.map V.str ++ []))) n2
          have h1 : (upd (upd H2 a1 (.lst (ga.map V.str ++ (gb.map V.str ++ [])))) a2 (.lst (lo.map V.str ++ (lb.map V.str ++ [])))) a1 = some (.lst ((ga ++ gb).map V.str)) := by
            rw [s4 _ _ upd_same, List.append_nil, ← List.map_append]
          have h2 : (upd (upd H2 a1 (.lst (ga.map V.str ++ (gb.map V.str ++ [])))) a2 (.lst (lo.map V.str ++ (lb.map V.str ++ [])))) a2 = some (.lst ((lo ++ lb).map V.str)) := by
            rw [upd_same, List.append_nil, ← List.map_append]
          have f1 : ∀ x ∈ ga ++ gb, isFixB x = true := fun x hx => (List.mem_append.mp hx).elim (G.fx x) (G2.fx x)
          have f2 : ∀ x ∈ lo ++ lb, isFixB x = true := fun x hx => (List.mem_append.mp hx).elim (L.fx x) (L2'.fx x)
          have s24 := s12.trans (s3.trans s4)
          refine ⟨_, rfl, _, rfl, a1, a2, ga ++ gb, lo ++ lb, rfl, h1, h2, by rw [List.length_append]; omega, f1, fun H5 s5 => ⟨fun h8 H6 x6 d6 t6 s6 O6 => ?_, fun h8 H6 s6 => AR.big e1 e2 (.inl h8) H6 (s24.trans (s5.trans s6))⟩⟩
          have s56 := s5.trans s6
          refine ⟨_, rfl, _, rfl, a2, a1, lo ++ lb, ga ++ gb, rfl, s56 _ _ h2, s56 _ _ h1, by rw [List.length_append]; omega, f2, fun H7 s7 => ⟨fun h9 H8 x8 d8 t8 s8 O8 => ?_, fun h9 H8 s8 => AR.big e1 e2 (.inr h9) H8 (s24.trans (s56.trans (s7.trans s8)))⟩⟩
          have s78 := s7.trans s8
          exact note_new ⟨d6, t6, O6.same s78⟩ ⟨d8, t8, O8⟩ apart_without fun x H9 s9 N9 => AR.ok e1 e2 h8 h9 x H9 (s24.trans (s56.trans (s78.trans s9))) N9
    · exact ⟨_, rfl, v, .ref (gNo K), _, _, false, rfl, .own _, ty, kt, false, rfl, if_posB rfl (mkb1 bd)⟩
end
end K6
set_option Elab.async false
set_option linter.all false
set_option maxRecDepth 100000
set_option maxHeartbeats 1000000
/-! Note.__str__. -/
namespace K6
open PySem PySem.Spec PyProof.Rows L2 RV EV He EF EI
def plus (c z : Str) : Str := (Str.empty ++ c) ++ z
def toldL (ga lo : List Str) : List Str := ga.map (plus "+") ++ lo.map (plus "-")
def noteText (ga lo : List Str) : Str := if toldL ga lo = [] then "-" else Txt.join " " (toldL ga lo)
abbrev scNs_N : List Str := ["self", "told", "fix"]
theorem scNs : FnScope scNs_N ["self"] (defScope (nSt 2)) := ⟨rfl, rfl, rfl, by decide +kernel, rfl, by decide +kernel, by decide +kernel⟩
def spStN (K : PySem.W.Frag) : Sp := fun vs H Q _ => ∃ p ga lo, vs = [.ref p] ∧ IsNote K H p ga lo ∧ ∀ H', Same H H' → Q (.str (noteText ga lo)) H'
abbrev tPl (c : Str) : TE := fun σ H Q => tJs [tC (V.str c), tFmt (tVar 2)] Str.empty σ H fun out H1 => Q (.str out) H1
theorem plus_len {c z : Str} (hc : c.length = 1) (hz : z.length ≤ 8) : (plus c z).length ≤ 9 := by
  unfold plus
  rw [strLen_append, strLen_append, hc]
  have : (Str.empty).length = 0 := rfl
  omega
section
variable {P : Program} {w : World} {K : PySem.W.Frag} {mg : Str → Option Value} {base : Heap}
theorem pl_read {σ : L2.St} {H : Hp} {Q : VK} {c z : Str} (hc : c.length = 1) (hz : z.length ≤ 8) (hs : σ[2]? = some (some (.str z))) (k : Q (.str (plus c z)) H) : tPl c σ H Q := by
  have h9 := plus_len (c := c) hc hz
  refine ⟨c, rfl, ?_, _, hs, .inl ⟨z, rfl, by rw [sizeLine_eq]; omega, z, rfl, ?_, k⟩⟩
  · rw [strLen_append, hc, sizeLine_eq]
    show 0 + 1 ≤ _
    omega
  · show (plus c z).length ≤ _
    rw [sizeLine_eq]
    omega
theorem pc_read {X : Cx} (T : KF X.prog X.w X.K X.mg X.base) {σ : L2.St} {H : Hp} {Q : VK} {ti : TE} {g : Addr} {ns : List Str} {c : Str} (hc : c.length = 1) (hg : IsLot X.K H g ns) (h1 : ∀ R : VK, R (.ref g) H → ti σ H R)
    (hs : ∀ z : Str, ((wipe σ [2]).set 2 (some (V.str z)))[2]? = some (some (.str z))) (hw : ∀ v, wipe ((wipe σ [2]).set 2 (some v)) [2] = wipe σ [2])
    (k : ∀ D H', Same H H' → H' D = some (.lst ((ns.map (plus c)).map V.str)) → Q (.ref D) H') : tLc (iLot X ti) (gName 2) tYes (tPl c) [2] σ H Q := by
  obtain ⟨dg, tg, G⟩ := hg
  refine h1 _ ⟨g, dg, _, tg, _, rfl, G.ob, SqT.of G.ps, gives_iterL T G, fun D nD => ?_⟩
  have le8 := G.le
  refine lct (K := X.K) (a := tg) (σ := σ) (i := 2) (tt := tYes) (te := tPl c) (p := fun _ => true) (enc := V.str) (out := fun x => V.str (plus c x)) (ns := ns) (fun H' s => SqT.of (s _ _ G.ps)) ⟨nD, by omega, hw, fun z _ H' F s q => tests_yes (z := z) q, fun z hm _ H' F s q => ?_, fun H2 s2 hD => ?_⟩
  · exact pl_read hc (fix_len (G.fx z hm)) (hs z) (q _ fun _ _ e => e)
  · rw [all_yes] at hD
    refine k D H2 s2 ?_
    rw [hD, List.map_map]
    rfl
theorem ok_noStr (T : KF P w K mg base) {fd : FuncData} (F : FunD K "__str__" "Note.__str__" (defArgs (nSt 2)) (defBody (nSt 2)) (defScope (nSt 2)) [] [] (ma K (gNo K) "__str__") fd) : FnOk P w K mg base CX0 3 (ma K (gNo K) "__str__") fd ["self"] (spStN K) := by
  refine F.ok scNs (fun vs H Q E h => ?_) (fun cdv A outer s H vs Q E hr h => ?_)
  · obtain ⟨p, ga, lo, rfl, _⟩ := h
    rfl
  · obtain ⟨p, ga, lo, rfl, ⟨dx, g, l, N⟩, k⟩ := h
    refine ⟨_, PSs.nox (pss_cons (ps_set (i := 1) scNs.nd rfl (.inl rfl) (pe_lst (StX.pa_star (pe_lc (own := [("fix", 2)]) (g := gName 2) (tt := tYes) (te := tPl "+") rfl scNs.nd
          (Ow.pi_own (k := 1) (pe_fld (pv 0) rfl) (lm T ("__iter__", 8) (by decide)).at_ (lm T ("__iter__", 8) (by decide)).fn (hr.mono (by decide))) (blkOk_by (N := scNs_N) (sc := defScope (nSt 2)) (by decide +kernel)) (fun _ _ _ _ _ => pg_name (i := 2) scNs.nd rfl (.inl rfl)) (fun _ _ _ _ _ => pts_nil)
          (fun _ _ _ _ _ => pe_joined (.cons pe_str (.cons (pe_fmt (pv 2)) .nil))))
        (StX.pa_star (pe_lc (own := [("fix", 2)]) (g := gName 2) (tt := tYes) (te := tPl "-") rfl scNs.nd
          (Ow.pi_own (k := 1) (pe_fld (pv 0) rfl) (lm T ("__iter__", 8) (by decide)).at_ (lm T ("__iter__", 8) (by decide)).fn (hr.mono (by decide))) (blkOk_by (N := scNs_N) (sc := defScope (nSt 2)) (by decide +kernel)) (fun _ _ _ _ _ => pg_name (i := 2) scNs.nd rfl (.inl rfl)) (fun _ _ _ _ _ => pts_nil)
          (fun _ _ _ _ _ => pe_joined (.cons pe_str (.cons (pe_fmt (pv 2)) .nil)))) pa_nil))))
      (pss_cons (ps_if (pt_not (pt_truth (pv 1) (fun _ => rfl))) (pss_one (ps_ret pe_str)) pss_nil) (pss_one (ps_ret (pe_join pe_str (pv 1)))))), ?_⟩
    unfold tSeq tAsg tLst StX.tStar
    refine pc_read (X := (cxOf CX0 P w K mg base scNs_N "Note.__str__" (defScope (nSt 2)) (ma K (gNo K) "__str__") cdv A outer s H E).nox) (ti := tFld K (tVar 0) "gained") T (by decide +kernel) N.g (fun R r => ⟨_, rfl, p, gNo K, dx, _, _, rfl, N.ob, cls_note T, T.noGa, rfl, r⟩) (fun _ => rfl) (fun _ => rfl) fun D1 H1 s1 h1 => ?_
    refine ⟨D1, _, rfl, .inr (SqL.of h1), ?_⟩
    have N1 := N.same s1
    refine pc_read (X := (cxOf CX0 P w K mg base scNs_N "Note.__str__" (defScope (nSt 2)) (ma K (gNo K) "__str__") cdv A outer s H E).nox) (ti := tFld K (tVar 0) "lost") T (by decide +kernel) N1.l (fun R r => ⟨_, rfl, p, gNo K, dx, _, _, rfl, N1.ob, cls_note T, T.noLs, rfl, r⟩) (fun _ => rfl) (fun _ => rfl) fun D2 H2 s2 h2 => ?_
    obtain ⟨_, _, G⟩ := N.g
    obtain ⟨_, _, L⟩ := N.l
    have z1 := G.le
    have z2 := L.le
    refine ⟨D2, _, rfl, .inr (SqL.of h2), ?_, fun l1 n1 => ?_⟩
    · rw [List.append_nil, List.length_append, List.length_map, List.length_map, List.length_map, List.length_map, sizeLine_eq]
      omega
    have s3 := same_new (o := .lst ((ga.map (plus "+")).map V.str ++ ((lo.map (plus "-")).map V.str ++ []))) n1
    have hl : (upd H2 l1 (.lst ((ga.map (plus "+")).map V.str ++ ((lo.map (plus "-")).map V.str ++ [])))) l1 = some (.lst ((toldL ga lo).map V.str)) := by
      rw [upd_same, List.append_nil, ← List.map_append]
      rfl
    have sA := s1.trans (s2.trans s3)
    have k := k _ sA
    unfold noteText at k
    refine ⟨_, rfl, !((toldL ga lo).map V.str).isEmpty, .inl ⟨_, SqL.of hl, rfl⟩, ?_⟩
    by_cases e : toldL ga lo = []
    · rw [if_pos e] at k
      exact if_posB (by rw [e]; rfl) k
    · rw [if_neg e] at k
      refine if_negB ?_ ⟨⟨_, rfl⟩, _, rfl, " ", l1, toldL ga lo, rfl, rfl, .inl (SqL.of hl), ?_, k⟩
      · cases e2 : toldL ga lo with
        | nil => exact absurd e2 e
        | cons x r => rfl
      · have b9 : ∀ x ∈ toldL ga lo, x.length ≤ 9 := fun x hx => by
          rcases List.mem_append.mp hx with hx | hx
          · obtain ⟨z, hz, rfl⟩ := List.mem_map.mp hx
            exact plus_len (by decide +kernel) (fix_len (G.fx z hz))
          · obtain ⟨z, hz, rfl⟩ := List.mem_map.mp hx
            exact plus_len (by decide +kernel) (fix_len (L.fx z hz))
        have b16 : (toldL ga lo).length ≤ 16 := by
          unfold toldL
          rw [List.length_append, List.length_map, List.length_map]
          omega
        have sm : ∀ ns : List Str, (∀ x ∈ ns, x.length ≤ 9) → (ns.map fun x => x.length).sum ≤ ns.length * 9 := by
          intro ns
          induction ns with
          | nil => intro _; exact Nat.le_refl _
          | cons x r ih =>
            intro h
            have q1 := h x List.mem_cons_self
            have q2 := ih fun y hy => h y (List.mem_cons_of_mem _ hy)
            rw [List.map_cons, List.sum_cons, List.length_cons]
            omega
        have q := sm _ b9
        rw [one_]
        omega
end
end K6
set_option Elab.async false
set_option linter.all false
set_option maxRecDepth 100000
set_option maxHeartbeats 1000000
/-! The operators of notes, as a caller has them. -/
namespace K6
open PySem PySem.Spec PyProof.Rows L2 RV EV He EF EI
section
variable {P : Program} {w : World} {K : PySem.W.Frag} {mg : Str → Option Value} {base : Heap}
abbrev nAd (K : PySem.W.Frag) (m : Str) : Addr := ma K (gNo K) m
theorem noteF (T : KF P w K mg base) : lotB1 K (gNo K) = true ∧ (∀ t ∈ besT, PySem.W.subIn K (.type t) (.ref (gNo K)) = some false) ∧ (∀ m ∈ lackN, PySem.W.findIn K (.ref (gNo K)) m = some none) ∧ PySem.W.findIn K (.ref (gNo K)) "__ne__" = some (some (.builtin "object.__ne__")) := by
  have z := (rB T).1
  unfold noteB at z
  obtain ⟨z1, z⟩ := ba z
  obtain ⟨z2, z⟩ := ba z
  obtain ⟨z3, z4⟩ := ba z
  exact ⟨z1, fun t h => of_decide_eq_true (List.all_eq_true.mp z2 t h), fun m h => eqO_ok (List.all_eq_true.mp z3 m h), eqO_ok z4⟩
theorem opc_add (T : KF P w K mg base) : Oo.OpC K (gNo K) (nAd K "__add__") "add" := by
  obtain ⟨z1, z2, z3, _⟩ := noteF T
  obtain ⟨_, h⟩ := ba z1
  obtain ⟨_, h⟩ := ba h
  obtain ⟨h3, h⟩ := ba h
  obtain ⟨_, h5⟩ := ba h
  exact ⟨nm T ("__add__", 6) (by decide), h3, h5, z3 "__radd__" (by decide), z3 "__iadd__" (by decide), fun t ht => z2 t ht⟩
theorem r_add (T : KF P w K mg base) : FnR P w K mg base (L2.CX P w) 9 (nAd K "__add__") (spAdd K) := by
  obtain ⟨_, fd, F⟩ := T.note ("__add__", 6) (by decide)
  exact Oo.FnOk.r0 (ok_add T F) (FunD.bindsN F fun _ _ _ _ _ _ us hl => match us, hl with | [_, _], _ => rfl)
theorem r_neg (T : KF P w K mg base) : FnR P w K mg base (L2.CX P w) 6 (nAd K "__neg__") (spNeg K) := by
  obtain ⟨_, fd, F⟩ := T.note ("__neg__", 5) (by decide)
  exact Oo.FnOk.r0 (ok_neg T F) (FunD.bindsN F fun _ _ _ _ _ _ us hl => match us, hl with | [_], _ => rfl)
theorem r_noEq (T : KF P w K mg base) : FnR P w K mg base CX0 2 (nAd K "__eq__") (spEqN K) := by
  obtain ⟨_, fd, F⟩ := T.note ("__eq__", 3) (by decide)
  exact Oo.FnOk.r0 (ok_noEq T F) (FunD.bindsN F fun _ _ _ _ _ _ us hl => match us, hl with | [_, _], _ => rfl)
/-- a lot may stand behind the sign -/
theorem add_lot (T : KF P w K mg base) : Oo.okAdd K (gNo K) (.ref (gO K)) := by
  have z : relB K = true := T.relb
  unfold relB at z
  obtain ⟨_, z⟩ := ba z
  obtain ⟨_, z⟩ := ba z
  obtain ⟨_, z⟩ := ba z
  obtain ⟨_, z⟩ := ba z
  have z := (ba (ba z).2).2
  have ne : gNo K ≠ gO K := fun e => by
    have h1 := (kits T).nn
    have h2 := (kits T).ln
    rw [← e] at h2
    rw [h1] at h2
    exact absurd h2 (by decide)
  exact .inr (.inr ⟨gO K, rfl, ne, mroF T, eqO_ok (List.all_eq_true.mp z "__add__" (by decide)), eqO_ok (List.all_eq_true.mp z "__radd__" (by decide))⟩)
end
end K6
set_option Elab.async false
set_option linter.all false
set_option maxRecDepth 100000
set_option maxHeartbeats 1000000
/-! Notes of rows add up: no Python here. -/
namespace K6
open PySem PySem.Spec PyProof.Rows
/-- what is gained on the way from a to c by b -/
theorem tel_gain {a b c : List Str} (hc : Asc c) : lined (without (sift b a false ++ sift c b false) (sift a b false ++ sift b c false)) = sift c a false := by
  refine asc_uniq (asc_lined _) (asc_sift hc) fun x => ?_
  rw [mem_lined, mem_without, List.mem_append, List.mem_append, mem_sift, mem_sift, mem_sift, mem_sift, mem_sift]
  by_cases h1 : x ∈ a <;> by_cases h2 : x ∈ b <;> by_cases h3 : x ∈ c <;> simp [h1, h2, h3]
/-- and lost -/
theorem tel_lost {a b c : List Str} (ha : Asc a) : lined (without (sift a b false ++ sift b c false) (sift b a false ++ sift c b false)) = sift a c false := by
  refine asc_uniq (asc_lined _) (asc_sift ha) fun x => ?_
  rw [mem_lined, mem_without, List.mem_append, List.mem_append, mem_sift, mem_sift, mem_sift, mem_sift, mem_sift]
  by_cases h1 : x ∈ a <;> by_cases h2 : x ∈ b <;> by_cases h3 : x ∈ c <;> simp [h1, h2, h3]
theorem tel_apart1 {a b c : List Str} : apartB (sift b a false) (sift c b false) = true := by
  rw [apart_iff]
  intro x hx hy
  exact (mem_sift.mp hy).2 (mem_sift.mp hx).1
theorem tel_apart2 {a b c : List Str} : apartB (sift a b false) (sift b c false) = true := by
  rw [apart_iff]
  intro x hx hy
  exact (mem_sift.mp hx).2 (mem_sift.mp hy).1
theorem sift_self {a : List Str} : sift a a false = [] := by
  unfold sift
  rw [List.filter_eq_nil_iff]
  intro x hx
  simp [hx]
theorem sift_le {a b : List Str} (h : a.length ≤ 8) : (sift a b false).length ≤ 8 := Nat.le_trans (List.length_filter_le _ _) h
/-- a note and the way back -/
theorem back_gain {g l : List Str} (h : apartB g l = true) : lined (without (g ++ l) (l ++ g)) = [] := by
  have e : without (g ++ l) (l ++ g) = [] := by
    unfold without
    rw [List.filter_eq_nil_iff]
    intro x hx
    have : x ∈ l ++ g := by
      rcases List.mem_append.mp hx with q | q
      · exact List.mem_append_right _ q
      · exact List.mem_append_left _ q
    simp [this]
  rw [e]
  rfl
end K6
set_option Elab.async false
set_option linter.all false
set_option maxRecDepth 100000
set_option maxHeartbeats 1000000
/-! Calls by keywords alone: f(k = v, ..), o.m(k = v, ..), C(k = v, ..). -/
namespace Kw
open PySem PySem.Spec PyProof.Rows L2
/-- some places of a list, in order -/
def sel {α : Type} (perm : List Nat) (l : List α) : List α := perm.filterMap fun i => l[i]?
theorem vals_sel {zs : List V} {ws : List Value} (r : Vals zs ws) : ∀ perm : List Nat, Vals (sel perm zs) (sel perm ws)
  | [] => .nil
  | i :: perm => by
    have ih := vals_sel r perm
    unfold sel at ih ⊢
    cases e : zs[i]? with
    | none =>
      have e2 : ws[i]? = none := by
        rw [List.getElem?_eq_none_iff] at e ⊢
        rw [← r.length]
        exact e
      rw [List.filterMap_cons_none e, List.filterMap_cons_none e2]
      exact ih
    | some x =>
      obtain ⟨u, hu, ru⟩ := r.get e
      rw [List.filterMap_cons_some e, List.filterMap_cons_some hu]
      exact .cons ru ih
section
variable {X : Cx} {CX : CXT} {k : Nat} {f C : Addr} {fd : FuncData} {ps ks : List Str} {sp : Sp} {E : XK} {x m : Str} {p pos apos : Pos} {o : Expr} {kws : List Keyword} {ta : TE} {tk : TA} {perm : List Nat} {ds : List Value} {dvs : List V}
theorem run_kw {pins : List (Addr × Obj)} {σ : L2.St} {H : Hp} {s : Shared} {Q : VK} {us ws : List Value} {vs zs : List V} (F : FnOk X.prog X.w X.K X.mg X.base CX k f fd ps sp) (hr : Room k X.A) (hx : Passes CX X E)
    (b : BindsTo s fd ⟨us, ks.zip ws⟩ (ps.zip (us ++ sel perm ws))) (I : Inv X pins σ H s) (r : Vals vs us) (rz : Vals zs ws) (h : sp (vs ++ sel perm zs) H Q E) : wpAny (model X.prog X.w) X.A (call (.ref f) us (ks.zip ws)) (EP X pins σ Q) X.xe s := by
  refine wpAny_call (codeAny_mono (F.run X.A X.stack s H ⟨us, ks.zip ws⟩ (us ++ sel perm ws) (vs ++ sel perm zs) Q E hr I.env0 b (r.append (vals_sel rz perm)) h) fun z s' hz => ?_)
  match z, hz with
  | .error e, hz => exact hx pins σ H s e s' I hz
  | .ok (.ret u), hz => exact I.after hz
def tCallKw (sp : Sp) (perm : List Nat) (n : Nat) (E : XK) (tk : TA) : TE := fun σ H Q => tk σ H fun zs H1 => zs.length = n ∧ sp (sel perm zs) H1 Q E
/-- f(k = v, ..) -/
theorem pe_callKw (F : FnOk X.prog X.w X.K X.mg X.base CX k f fd ps sp) (hr : Room k X.A) (hg : Gl X x) (hm : X.mg x = some (.ref f)) (hk : PySem.W.keepIn X.K (.ref f) = true) (hb : ∀ (s : Shared) (ws : List Value), ws.length = ks.length → BindsTo s fd ⟨[], ks.zip ws⟩ (ps.zip (sel perm ws)))
    (hx : Passes CX X E) (hkw : PK X kws tk) (hall : (backToKw pos (keywordEach kws X.env)).all (·.1.isSome) = true := by rfl) (hks : (backToKw pos (keywordEach kws X.env)).filterMap (·.1) = ks := by rfl) (hdb : (x == ("__debug__" : Str)) = false := by decide)
    (hpl : ((backTo pos (starEach [] X.env)).any (·.1) || (backToKw pos (keywordEach kws X.env)).any (·.1.isNone)) = false := by rfl) : PE X (.Call (.Name x p) [] kws pos) (tCallKw sp perm ks.length E tk) := by
  refine ⟨fun pins s σ H Q I h => wpAny_Call_Name_kw (ld_glob I hg hm ?_ hdb)⟩
  refine PySem.W.callWith_KW0 (h₀ := X.base) I.ok.mod.kin hk hall (thn (hkw.run pos pins s σ H _ I h) fun ws s1 hw => ?_) hpl
  obtain ⟨zs, H1, I1, rz, hl, q⟩ := hw
  refine ⟨I1.kIn, ?_⟩
  rw [hks]
  exact run_kw (us := []) (vs := []) F hr hx (hb s1 ws (rz.length.symm.trans hl)) I1 .nil rz q
def tMethKw (C : Addr) (m : Str) (sp : Sp) (perm : List Nat) (n : Nat) (E : XK) (ta : TE) (tk : TA) : TE := fun σ H Q => ta σ H fun x H1 => ∃ a dx fs, x = .ref a ∧ H1 a = some (.ins C dx fs) ∧ fs.lookup m = none ∧ tk σ H1 fun zs H2 => zs.length = n ∧ sp (x :: sel perm zs) H2 Q E
/-- o.m(k = v, ..) -/
theorem pe_methKw {pl : Sem Bool} (he : PE X o ta) (c : Cls X.K C) (hm : Meth X.K C m f) (F : FnOk X.prog X.w X.K X.mg X.base CX k f fd ps sp) (hr : Room k X.A) (hb : ∀ (s : Shared) (u : Value) (ws : List Value), ws.length = ks.length → BindsTo s fd ⟨[u], ks.zip ws⟩ (ps.zip (u :: sel perm ws)))
    (hx : Passes CX X E) (hkw : PK X kws tk) (hall : (backToKw pos (keywordEach kws X.env)).all (·.1.isSome) = true := by rfl) (hks : (backToKw pos (keywordEach kws X.env)).filterMap (·.1) = ks := by rfl)
    (hpl : ((backTo pos (starEach [] X.env)).any (·.1) || (backToKw pos (keywordEach kws X.env)).any (·.1.isNone)) = false := by rfl)
    (ht : eval (.Call (.Attribute o m apos) [] kws pos) X.env = (do
      let u ← eval o X.env
      standAt apos.atName
      let (g, one) ← holding [u] (getMethod u m pl)
      callWith pos g one (backTo pos (starEach [] X.env)) (backToKw pos (keywordEach kws X.env))) := by rfl) : PE X (.Call (.Attribute o m apos) [] kws pos) (tMethKw C m sp perm ks.length E ta tk) := by
  refine ⟨fun pins s σ H Q I h => PySem.W.methodCall_KW (pl := pl) (thn (he.run pins s σ H _ I h) fun v s1 hv => ?_) ht⟩
  obtain ⟨x, H1, I1, rx, a, dx, fs, rfl, ea, l, q⟩ := hv
  obtain rfl : v = Value.ref a := rx
  refine getmeth_ok I1 ea c hm l (PySem.W.callWith_KW0 (first := [.ref a]) (h₀ := X.base) I.ok.mod.kin hm.kp hall (thn (hkw.run pos pins s1 σ H1 _ I1 q) fun ws s2 hw => ?_) hpl)
  obtain ⟨zs, H2, I2, rz, hl, q2⟩ := hw
  refine ⟨I2.kIn, ?_⟩
  rw [hks]
  exact run_kw (us := [.ref a]) (vs := [.ref a]) F hr hx (hb s2 (.ref a) ws (rz.length.symm.trans hl)) I2 (.cons rfl .nil) rz q2
/-- C(k = v, ..) -/
theorem pe_makeKw {g : List Value → List Value → List Value} {gV : List V → List V → List V} (M : Mk X.K C f) (F : FnOk X.prog X.w X.K X.mg X.base CX k f fd ps sp) (hr : Room (k + 1) X.A) (hg : Gl X x) (hm : X.mg x = some (.ref C)) (hb : KBn X.K fd ps 1 ks g gV) (hx : Passes CX X E) (hkw : PK X kws tk)
    (hall : (backToKw pos (keywordEach kws X.env)).all (·.1.isSome) = true := by rfl) (hks : (backToKw pos (keywordEach kws X.env)).filterMap (·.1) = ks := by rfl) (hdb : (x == ("__debug__" : Str)) = false := by decide)
    (hpl : ((backTo pos (starEach [] X.env)).any (·.1) || (backToKw pos (keywordEach kws X.env)).any (·.1.isNone)) = false := by rfl) : PE X (.Call (.Name x p) [] kws pos) (tMakeN C 0 ks.length sp gV E tNil tk) := by
  refine ⟨fun pins s σ H Q I h => wpAny_Call_Name_kw (ld_glob I hg hm ?_ hdb)⟩
  refine PySem.W.callWith_KW0 (h₀ := X.base) I.ok.mod.kin M.kp hall (thn (hkw.run pos pins s σ H _ I h) fun ws s1 hw => ?_) hpl
  obtain ⟨zs, H1, I1, rz, _, hl, q⟩ := hw
  refine ⟨I1.kIn, ?_⟩
  rw [hks]
  exact run_makeN (us := []) (vs := []) M F hr hb hx I1 .nil rz rfl hl q
end
end Kw
set_option Elab.async false
set_option linter.all false
set_option maxRecDepth 100000
set_option maxHeartbeats 1000000
/-! Rows of things, each at its address; the operators of notes, read. -/
namespace K6
open PySem PySem.Spec PyProof.Rows L2 RV EV He EF EI
/-- the i-th thing stands at the i-th address -/
def Each {α : Type} (P : Hp → Addr → α → Prop) (H : Hp) : List Addr → List α → Prop
  | [], [] => True
  | a :: as, x :: xs => P H a x ∧ Each P H as xs
  | _, _ => False
theorem Each.same {α : Type} {P : Hp → Addr → α → Prop} {H H' : Hp} (s : ∀ a x, P H a x → P H' a x) : ∀ {as : List Addr} {xs : List α}, Each P H as xs → Each P H' as xs
  | [], [], _ => trivial
  | a :: as, x :: xs, ⟨h1, h2⟩ => ⟨s _ _ h1, Each.same s h2⟩
  | [], _ :: _, h => h.elim
  | _ :: _, [], h => h.elim
theorem Each.imp {α : Type} {P P' : Hp → Addr → α → Prop} {H H' : Hp} (s : ∀ a x, P H a x → P' H' a x) : ∀ {as : List Addr} {xs : List α}, Each P H as xs → Each P' H' as xs
  | [], [], _ => trivial
  | a :: as, x :: xs, ⟨h1, h2⟩ => ⟨s _ _ h1, Each.imp s h2⟩
  | [], _ :: _, h => h.elim
  | _ :: _, [], h => h.elim
theorem yes_go {σ : L2.St} {H : Hp} {A B : Hp → Prop} (k : A H) : tYes σ H (fun b H3 => if b = true then A H3 else B H3) := by
  show if true = true then A H else B H
  rw [if_pos rfl]
  exact k
theorem Each.len {α : Type} {P : Hp → Addr → α → Prop} {H : Hp} : ∀ {as : List Addr} {xs : List α}, Each P H as xs → as.length = xs.length
  | [], [], _ => rfl
  | _ :: _, _ :: _, h => congrArg (· + 1) (Each.len h.2)
  | [], _ :: _, h => h.elim
  | _ :: _, [], h => h.elim
theorem Each.snoc {α : Type} {P : Hp → Addr → α → Prop} {H : Hp} {a : Addr} {x : α} : ∀ {as : List Addr} {xs : List α}, Each P H as xs → P H a x → Each P H (as ++ [a]) (xs ++ [x])
  | [], [], _, h => ⟨h, trivial⟩
  | _ :: _, _ :: _, h, q => ⟨h.1, Each.snoc h.2 q⟩
  | [], _ :: _, h, _ => h.elim
  | _ :: _, [], h, _ => h.elim
theorem Each.get {α : Type} {P : Hp → Addr → α → Prop} {H : Hp} : ∀ {as : List Addr} {xs : List α} {i : Nat} {x : α}, Each P H as xs → xs[i]? = some x → ∃ a, as[i]? = some a ∧ P H a x
  | a :: as, y :: ys, 0, x, h, e => ⟨a, rfl, by cases e; exact h.1⟩
  | a :: as, y :: ys, i + 1, x, h, e => Each.get (as := as) (xs := ys) (i := i) h.2 e
  | [], [], _, _, _, e => nomatch e
  | [], _ :: _, _, _, h, _ => h.elim
  | _ :: _, [], _, _, h, _ => h.elim
abbrev refs (as : List Addr) : List V := as.map V.ref
theorem refs_at {as : List Addr} {i : Nat} {a : Addr} (h : as[i]? = some a) : (refs as)[i]? = some (.ref a) := by
  rw [List.getElem?_map, h]
  rfl
abbrev RowP (H : Hp) (l : Addr) (ns : List Str) : Prop := H l = some (.lst (ns.map V.str))
abbrev RowsAt (H : Hp) (ls : List Addr) (rows : List (List Str)) : Prop := Each RowP H ls rows
abbrev RelsAt (K : PySem.W.Frag) (H : Hp) (ps : List Addr) (rows : List (List Str)) : Prop := Each (IsRel K) H ps rows
abbrev NotP (K : PySem.W.Frag) (H : Hp) (p : Addr) (q : List Str × List Str) : Prop := IsNote K H p q.1 q.2
abbrev NotesAt (K : PySem.W.Frag) (H : Hp) (ps : List Addr) (ns : List (List Str × List Str)) : Prop := Each (NotP K) H ps ns
/-- the note from a row to another -/
def stepN (a b : List Str) : List Str × List Str := (sift b a false, sift a b false)
theorem fxl_len : lettersL.length = 9 := by decide +kernel
theorem fxl_asc : Asc lettersL := by
  unfold Asc lettersL
  decide +kernel
theorem FxOk.asc {ns : List Str} (h : FxOk ns) : Asc ns := fxl_asc.sublist h.sub
theorem fxl_fix : ∀ x ∈ lettersL, isFixB x = true := by
  intro x hx
  exact List.all_eq_true.mp (show lettersL.all isFixB = true by decide +kernel) x hx
theorem FxOk.fix {ns : List Str} (h : FxOk ns) : ∀ x ∈ ns, isFixB x = true := fun x hx => fxl_fix x (h.sub.subset hx)
theorem FxOk.sift {ns ms : List Str} {b : Bool} (h : FxOk ns) : FxOk (sift ns ms b) := ⟨List.Sublist.trans List.filter_sublist h.sub, Nat.le_trans (List.length_filter_le _ _) h.le⟩
theorem FxOk.lined {ns : List Str} (h : FxOk ns) : K6.lined ns = ns := lined_asc h.asc
section
variable {P : Program} {w : World} {K : PySem.W.Frag} {mg : Str → Option Value} {base : Heap} {H : Hp} {Q : VK} {E : XK} {p q : Addr} {ga lo gb lb g l : List Str}
theorem AddR.good (h1 : apartB ga gb = true) (h2 : apartB lo lb = true) (eg : lined (without (ga ++ gb) (lo ++ lb)) = g) (el : lined (without (lo ++ lb) (ga ++ gb)) = l) (g8 : g.length ≤ 8) (l8 : l.length ≤ 8)
    (k : ∀ x H', Same H H' → IsNote K H' x g l → Q (.ref x) H') : AddR K E Q ga lo gb lb H where
  un := fun z => by
    rcases z with z | z
    · rw [h1] at z; cases z
    · rw [h2] at z; cases z
  ok := fun _ _ _ _ x H' s n => k x H' s (by rw [eg, el] at n; exact n)
  big := fun _ _ z => by
    rw [eg, el] at z
    omega
theorem add_read (T : KF P w K mg base) {ok : Value → Prop} (hp : IsNote K H p ga lo) (hq : IsNote K H q gb lb) (o : ok (.ref (gNo K))) (r : AddR K E Q ga lo gb lb H) : Oo.rOwn2 K (gNo K) ok (spAdd K) E (.ref p) (.ref q) H Q := by
  have hp' := hp
  have hq' := hq
  obtain ⟨dx, _, _, N⟩ := hp'
  obtain ⟨dy, _, _, M⟩ := hq'
  exact ⟨p, dx, _, .ref (gNo K), rfl, N.ob, ty_note T M.ob, o, p, ga, lo, .ref q, rfl, hp, .inl ⟨q, gb, lb, rfl, hq, r⟩⟩
theorem neg_read (hp : IsNote K H p ga lo) (a : apartB lo ga = true) (k : ∀ x H', Same H H' → IsNote K H' x lo ga → Q (.ref x) H') : Oo.rNegO (gNo K) (spNeg K) E (.ref p) H Q := by
  have hp' := hp
  obtain ⟨dx, _, _, N⟩ := hp'
  exact ⟨p, dx, _, rfl, N.ob, p, ga, lo, rfl, hp, a, k⟩
theorem first_note (T : KF P w K mg base) : PySem.W.notFirst K (gNo K) (.ref (gNo K)) = true := by
  unfold PySem.W.notFirst
  rw [beq_self_eq_true, Bool.true_or]
theorem eqn_read (T : KF P w K mg base) (hp : IsNote K H p ga lo) (hq : IsNote K H q gb lb) (k : Q (.bl (decide (ga = gb) && decide (lo = lb))) H) : Oo.rOwn2 K (gNo K) (fun t => PySem.W.notFirst K (gNo K) t = true) (spEqN K) E (.ref p) (.ref q) H Q := by
  have hp' := hp
  have hq' := hq
  obtain ⟨dx, _, _, N⟩ := hp'
  obtain ⟨dy, _, _, M⟩ := hq'
  exact ⟨p, dx, _, .ref (gNo K), rfl, N.ob, ty_note T M.ob, first_note T, p, ga, lo, .ref q, rfl, hp, .inl ⟨q, gb, lb, rfl, hq, k⟩⟩
theorem nen_read (T : KF P w K mg base) (hp : IsNote K H p ga lo) (hq : IsNote K H q ga lo) (k : Q (.bl false) H) : Oo.rNeO K (gNo K) (spEqN K) E (.ref p) (.ref q) H Q := by
  have hp' := hp
  have hq' := hq
  obtain ⟨dx, _, _, N⟩ := hp'
  obtain ⟨dy, _, _, M⟩ := hq'
  refine ⟨p, dx, _, .ref (gNo K), rfl, N.ob, ty_note T M.ob, first_note T, p, ga, lo, .ref q, rfl, hp, .inl ⟨q, ga, lo, rfl, hq, true, ?_, k⟩⟩
  rw [decide_eq_true rfl, decide_eq_true rfl]
  rfl
end
section
variable {P : Program} {w : World} {K : PySem.W.Frag} {mg : Str → Option Value} {base : Heap}
theorem mk_num (T : KF P w K mg base) : ∃ fd, FnOk P w K mg base (L2.CX P w) 3 (ma K (gNu K) "__init__") fd ["self", "line", "at"] (spNuI K) ∧ L2.Binds K fd ["self", "line", "at"] [] ∧ Mk K (gNu K) (ma K (gNu K) "__init__") ∧ mg "Number" = some (.ref (gNu K)) := by
  obtain ⟨fd, F⟩ := T.ik ("Number", 32) (by decide)
  obtain ⟨g, _, m⟩ := T.gk ("Number", 32) (by decide)
  exact ⟨fd, ok_nuI T F, FunD.bindsN F fun _ _ _ _ _ _ us hl => match us, hl with | [_, _, _], _ => rfl, m, g⟩
theorem mk_rel (T : KF P w K mg base) : ∃ fd, FnOk P w K mg base (L2.CX P w) 3 (ma K (gRe K) "__init__") fd ["self", "number", "lot"] (spReI K) ∧ L2.Binds K fd ["self", "number", "lot"] [] ∧ Mk K (gRe K) (ma K (gRe K) "__init__") ∧ mg "Release" = some (.ref (gRe K)) := by
  obtain ⟨fd, F⟩ := T.ik ("Release", 33) (by decide)
  obtain ⟨g, _, m⟩ := T.gk ("Release", 33) (by decide)
  exact ⟨fd, ok_reI T F, FunD.bindsN F fun _ _ _ _ _ _ us hl => match us, hl with | [_, _, _], _ => rfl, m, g⟩
/-- how many levels each needs: a call of _law_fixes, of note_of by names -/
theorem kw_nof (T : KF P w K mg base) : ∃ fd, FnOk P w K mg base (L2.CX P w) 9 (ga K "note_of") fd ["release", "other"] (spNof K) ∧ L2.Binds K fd ["release", "other"] [] ∧ PySem.W.keepIn K (.ref (ga K "note_of")) = true ∧ mg "note_of" = some (.ref (ga K "note_of")) ∧
    ∀ (s : Shared) (ws : List Value), ws.length = (["other", "release"] : List Str).length → BindsTo s fd ⟨[], (["other", "release"] : List Str).zip ws⟩ ((["release", "other"] : List Str).zip (Kw.sel [1, 0] ws)) := by
  obtain ⟨fd, F, g⟩ := T.tops ("note_of", 36) (by decide)
  refine ⟨fd, ok_nof T F, FunD.bindsN F fun _ _ _ _ _ _ us hl => match us, hl with | [_, _], _ => rfl, F.kp, g, ?_⟩
  intro s ws hl
  obtain ⟨oc, od, dV, kV, doc, pm, an, cdv, ct, osl, rfl, lk, hcd, hD, hK⟩ := F.ex
  rcases hD with ⟨_, rfl⟩ | ⟨e, _⟩
  · match ws, hl with
    | [a, b], _ => exact .of_eq rfl
  · exact absurd rfl e
end
end K6
set_option Elab.async false
set_option linter.all false
set_option maxRecDepth 100000
set_option maxHeartbeats 1000000
/-! _law_row_right: its readings, a statement each. -/
namespace K6
open PySem PySem.Spec PyProof.Rows L2 RV EV He EF EI
abbrev rLenS (K : PySem.W.Frag) : List V → Hp → VK → Prop := fun xs H Q => ∃ p ys, xs = [.ref p] ∧ (SqL K H p ys ∨ SqT K H p ys) ∧ Q (.int ys.length) H
abbrev rPl : R2 := rI0 fun i j => V.int (i + j)
abbrev rMi : R2 := rI0 fun i j => V.int (i - j)
abbrev rGtI : R2 := rI0 fun i j => V.bl (decide (j < i))
abbrev tM1 : TE := tUn (rU fun i => V.int (-i)) (tC (V.int 1))
abbrev tIx (K : PySem.W.Frag) (i : Nat) (te : TE) : TE := tOp (rIxL K) (tVar i) te
abbrev tNgN (K : PySem.W.Frag) (te : TE) : TE := tUn (Oo.rNegO (gNo K) (spNeg K) E0) te
abbrev tAdN (K : PySem.W.Frag) (a b : TE) : TE := tOp (Oo.rOwn2 K (gNo K) (Oo.okAdd K (gNo K)) (spAdd K) E0) a b
abbrev tNeN (K : PySem.W.Frag) (a b : TE) : TE := tOp (Oo.rNeO K (gNo K) (spEqN K) E0) a b
def tW1 : TS := tAsg (tLc (iRng1 (tCons (tOp rPl (tC (V.int 2)) (tCall spDraw [] E0 (tCons (tVar 0) (tCons (tC (V.int 5)) tNil)))) tNil)) (gName 10) tYes (tCall spFxs [] E0 (tCons (tVar 0) (tCons (tC (V.int 2)) tNil))) [10]) (gName 1)
def tW2 (K : PySem.W.Frag) : TS := tAsg (tLc (iEnum K (tCons (tVar 1) tNil)) (gTup K 2 (gCons (gName 11) (gCons (gName 12) gNil))) tYes
  (tMake (gRe K) (spReI K) [] E0 (tCons (tMake (gNu K) (spNuI K) [] E0 (tCons (tOp rPl (tC (V.int 1)) (tVar 11)) (tCons (tVar 11) tNil))) (tCons (tCall (spLlot K) [] E0 (tCons (tVar 12) tNil)) tNil))) [11, 12]) (gName 2)
def tW3 (K : PySem.W.Frag) : TS := tAsg (tLc (iRng1 (tCons (tOp rMi (tCB (rLenS K) (tCons (tVar 2) tNil)) (tC (V.int 1))) tNil)) (gName 11) tYes
  (tCall (spNof K) [] E0 (tCons (tIx K 2 (tVar 11)) (tCons (tIx K 2 (tOp rPl (tVar 11) (tC (V.int 1)))) tNil))) [11]) (gName 3)
/-- the note from a to b -/
abbrev SN (K : PySem.W.Frag) (H : Hp) (p : Addr) (a b : List Str) : Prop := IsNote K H p (sift b a false) (sift a b false)
abbrev Rows6 (rows : List (List Str)) : Prop := 2 ≤ rows.length ∧ rows.length ≤ 6 ∧ ∀ ns ∈ rows, FxOk ns
theorem none2 {H H' : Hp} {p q : Addr} {o : HO} (s : Same2 H H' p) (hp : H' p = some o) (hq : H' q = none) : H q = none := by
  rcases e : H q with _ | u
  · rfl
  · have ne : q ≠ p := fun z => by
      rw [z, hp] at hq
      cases hq
    rw [s q u ne e] at hq
    cases hq
theorem same2_new {H H' : Hp} {p D0 : Addr} {o : HO} (s : Same2 H H' p) (nD : H D0 = none) : Same2 H (upd H' D0 o) p := fun c u hc e => by
  rw [upd_ne (ne_of_none e nD)]
  exact s c u hc e
theorem same_keep {H H' : Hp} {D0 : Addr} {o : HO} (s : Same H H') (nD : H D0 = none) : Same H (upd H' D0 o) := fun c u e => by
  rw [upd_ne (ne_of_none e nD)]
  exact s c u e
theorem same2_trans {H H1 H2 : Hp} {p : Addr} (a : Same2 H H1 p) (b : Same2 H1 H2 p) : Same2 H H2 p := fun c o hc e => b c o hc (a c o hc e)
theorem same2_of {H H1 H2 : Hp} {p : Addr} (a : Same2 H H1 p) (b : Same H1 H2) : Same2 H H2 p := fun c o hc e => b c o (a c o hc e)
/-- an instance made: what stood stands -/
theorem same_made {H H' : Hp} {x dx : Addr} {o1 o2 : HO} (hx : H x = none) (hd : H dx = none) (s : Same2 (upd (upd H dx o1) x o2) H' x) : Same H H' := fun c u e => by
  refine s c u (ne_of_none e hx) ?_
  rw [upd_ne (ne_of_none e hx), upd_ne (ne_of_none e hd)]
  exact e
/-- all but lists stays -/
def SameN (H H' : Hp) : Prop := ∀ c o, (∀ xs, o ≠ .lst xs) → H c = some o → H' c = some o
theorem Same.toN {H H' : Hp} (s : Same H H') : SameN H H' := fun c o _ e => s c o e
theorem SameN.trans {H H1 H2 : Hp} (a : SameN H H1) (b : SameN H1 H2) : SameN H H2 := fun c o n e => b c o n (a c o n e)
theorem sameN_upd {H : Hp} {D : Addr} {xs : List V} {o : HO} (h : H D = some (.lst xs)) : SameN H (upd H D o) := fun c u n e => by
  rw [upd_ne (fun z => ?_)]
  · exact e
  · rw [z, h] at e
    exact n xs (Option.some.inj e).symm
theorem same2N {H H' : Hp} {p : Addr} {xs : List V} (h : H p = some (.lst xs)) (s : Same2 H H' p) : SameN H H' := fun c u n e => by
  refine s c u (fun z => ?_) e
  rw [z, h] at e
  exact n xs (Option.some.inj e).symm
theorem IsLot.sameN {K : PySem.W.Frag} {H H' : Hp} {p : Addr} {ns : List Str} (o : IsLot K H p ns) (s : SameN H H') : IsLot K H' p ns := let ⟨dx, tp, O⟩ := o; ⟨dx, tp, s _ _ (fun _ z => nomatch z) O.ob, s _ _ (fun _ z => nomatch z) O.ps, O.asc, O.fx, O.le⟩
theorem IsRel.sameN {K : PySem.W.Frag} {H H' : Hp} {p : Addr} {ns : List Str} (o : IsRel K H p ns) (s : SameN H H') : IsRel K H' p ns := let ⟨dx, n, l, R⟩ := o; ⟨dx, n, l, s _ _ (fun _ z => nomatch z) R.ob, (let ⟨dn, fn, e⟩ := R.n; ⟨dn, fn, s _ _ (fun _ z => nomatch z) e⟩), R.l.sameN s⟩
theorem IsNote.sameN {K : PySem.W.Frag} {H H' : Hp} {p : Addr} {ga lo : List Str} (o : IsNote K H p ga lo) (s : SameN H H') : IsNote K H' p ga lo := let ⟨dx, g, l, N⟩ := o; ⟨dx, g, l, s _ _ (fun _ z => nomatch z) N.ob, N.g.sameN s, N.l.sameN s⟩
theorem refs_snoc {H : Hp} {D : Addr} {as : List Addr} {a : Addr} : (upd H D (.lst (refs as ++ [V.ref a]))) D = some (.lst (refs (as ++ [a]))) := by
  rw [upd_same]
  unfold refs
  rw [List.map_append]
  rfl
theorem rows_same {H H' : Hp} {ls : List Addr} {rows : List (List Str)} (r : RowsAt H ls rows) (s : Same H H') : RowsAt H' ls rows := Each.same (fun _ _ h => s _ _ h) r
theorem rels_same {K : PySem.W.Frag} {H H' : Hp} {ls : List Addr} {rows : List (List Str)} (r : RelsAt K H ls rows) (s : Same H H') : RelsAt K H' ls rows := Each.same (fun _ _ h => IsRel.same h s) r
theorem notes_same {K : PySem.W.Frag} {H H' : Hp} {ls : List Addr} {ns : List (List Str × List Str)} (r : NotesAt K H ls ns) (s : Same H H') : NotesAt K H' ls ns := Each.same (fun _ _ h => IsNote.same h s) r
section
variable {K : PySem.W.Frag} {H : Hp} {p a : Addr} {cs : List Int} {b g : Int} {D : Ends}
theorem row1 (N : Pen H p a cs b g) (hb : b ≤ 800)
    (k : ∀ R ls rows b' g' H', b' ≤ b + 55 → Pen H' p a cs b' g' → Same2 H H' p → H' R = some (.lst (refs ls)) → RowsAt H' ls rows → Rows6 rows → D.nx [some (.ref p), some (.ref R), none, none, none, none, none, none, none, none, none, none, none, none] H') :
    tW1 D [some (.ref p), none, none, none, none, none, none, none, none, none, none, none, none, none] H := by
  refine ⟨_, rfl, p, a, cs, b, g, 5, rfl, N, by omega, by decide, by decide, fun r b1 g1 H1 r0 r1 hb1 N1 k1 => ⟨2, r, rfl, rfl, 2 + r, rfl, by omega, by omega, fun D0 nD => ?_⟩⟩
  have nDp : p ≠ D0 := ne_of_none N1.pn nD
  have nDa : a ≠ D0 := ne_of_none N1.ce nD
  refine lc_it (σ := [some (.ref p), none, none, none, none, none, none, none, none, none, none, none, none, none]) (vs := [10]) (walk_range (lo := 0) (n := (2 + r).toNat))
    (fun n H' => ∃ ls rows b' g', rows.length = n ∧ b' ≤ b1 + 9 * n ∧ Pen H' p a cs b' g' ∧ Same2 H1 H' p ∧ H' D0 = some (.lst (refs ls)) ∧ Each (fun H l ns => l ≠ D0 ∧ RowP H l ns) H' ls rows ∧ ∀ ns ∈ rows, FxOk ns)
    ⟨[], [], b1, g1, rfl, by omega, N1.new nD, same2_new (fun _ _ _ e => e) nD, upd_same, trivial, fun _ h => nomatch h⟩ (fun _ _ _ _ => trivial) ?_ ?_
  · rintro n x H4 H5 hn ⟨ls, rows, b4, g4, hl, hb4, N4, s4, hD, hR, hf⟩ ⟨rfl, rfl⟩
    refine ⟨rfl, yes_go ⟨_, rfl, p, a, cs, b4, g4, 2, rfl, N4, by omega, by decide, by decide, fun l ns b5 g5 H6 nl fx hb5 N5 s5 hl5 => ?_⟩⟩
    have lD : l ≠ D0 := fun e => by
      rw [e, hD] at nl
      cases nl
    have hD6 : H6 D0 = some (.lst (refs ls)) := s5 _ _ nDp.symm hD
    refine ⟨_, hD6, by rw [List.length_map, hR.len, sizeLine_eq]; omega, ls ++ [l], rows ++ [ns], b5, g5, by rw [List.length_append, hl]; rfl, by omega, ⟨by rw [upd_ne nDp]; exact N5.pn, by rw [upd_ne nDa]; exact N5.ce, N5.b0, N5.g0, N5.ln⟩,
      same2_new (same2_trans s4 s5) nD, refs_snoc, Each.snoc (Each.same (fun c u h => ?_) hR) ⟨lD, by show upd H6 D0 _ l = _; rw [upd_ne lD]; exact hl5⟩, fun ms hm => ?_⟩
    · refine ⟨h.1, ?_⟩
      have cp : c ≠ p := fun e => by
        have h2 : H5 c = some (.lst (u.map V.str)) := h.2
        rw [e, N4.pn] at h2
        match u, h2 with
        | [], h2 => cases h2
        | _ :: _, h2 => cases h2
      show upd H6 D0 _ c = _
      rw [upd_ne h.1]
      exact s5 _ _ cp h.2
    · rcases List.mem_append.mp hm with h | h
      · exact hf ms h
      · rw [List.mem_singleton.mp h]
        exact fx
  · rintro H4 ⟨ls, rows, b4, g4, hl, hb4, N4, s4, hD, hR, hf⟩
    have hn : rows.length ≤ 6 := by omega
    exact k D0 ls rows b4 g4 H4 (by omega) N4 (same2_trans k1 s4) hD (Each.imp (fun _ _ h => h.2) hR) ⟨by omega, hn, hf⟩
theorem steps_len (rows : List (List Str)) (n : Nat) : ((List.range n).map fun j => stepN (rows.getD j []) (rows.getD (j + 1) [])).length = n := by rw [List.length_map, List.length_range]
/-- the first n steps -/
def stepsL (rows : List (List Str)) (n : Nat) : List (List Str × List Str) := (List.range n).map fun j => stepN (rows.getD j []) (rows.getD (j + 1) [])
theorem stepsL_succ (rows : List (List Str)) (n : Nat) : stepsL rows (n + 1) = stepsL rows n ++ [stepN (rows.getD n []) (rows.getD (n + 1) [])] := by
  unfold stepsL
  rw [List.range_succ, List.map_append]
  rfl
theorem stepsL_at {rows : List (List Str)} {n j : Nat} (h : j < n) : (stepsL rows n)[j]? = some (stepN (rows.getD j []) (rows.getD (j + 1) [])) := by
  unfold stepsL
  rw [List.getElem?_map, List.getElem?_range h]
  rfl
theorem getD_row {rows : List (List Str)} {j : Nat} (h : j < rows.length) : rows[j]? = some (rows.getD j []) := by
  rw [List.getD_eq_getElem?_getD, List.getElem?_eq_getElem h]
  rfl
theorem row_mem {rows : List (List Str)} {j : Nat} (h : j < rows.length) : rows.getD j [] ∈ rows := List.mem_of_getElem? (getD_row h)
theorem row2 {P : Program} {w : World} {mg : Str → Option Value} {base : Heap} (T : KF P w K mg base) {R : Addr} {ls : List Addr} {rows : List (List Str)} (hR : H R = some (.lst (refs ls))) (r : RowsAt H ls rows) (r6 : Rows6 rows)
    (k : ∀ S ps H', Same H H' → H' S = some (.lst (refs ps)) → RelsAt K H' ps rows → D.nx [some (.ref p), some (.ref R), some (.ref S), none, none, none, none, none, none, none, none, none, none, none] H') :
    tW2 K D [some (.ref p), some (.ref R), none, none, none, none, none, none, none, none, none, none, none, none] H := by
  refine ⟨_, rfl, R, refs ls, rfl, SqL.of hR, fun D0 nD => ?_⟩
  obtain ⟨h2, h6, hf⟩ := r6
  have hlen := r.len
  refine lc_it (σ := [some (.ref p), some (.ref R), none, none, none, none, none, none, none, none, none, none, none, none]) (vs := [11, 12]) (walk_enum (K := K) (a := R) (xs := refs ls))
    (fun n H' => Same H H' ∧ ∃ ps, ps.length = n ∧ H' D0 = some (.lst (refs ps)) ∧ RelsAt K H' ps (rows.take n)) ⟨same_keep (fun _ _ e => e) nD, [], rfl, upd_same, trivial⟩ (fun n H' _ q => SqL.of (q.1 _ _ hR)) ?_ ?_
  · rintro n x H4 H5 hn ⟨s4, ps, hl, hD, hS⟩ ⟨t, x0, y0, rfl, nt, rfl, e1, e2⟩
    rw [List.length_map] at hn
    have hn6 : n < rows.length := by omega
    obtain ⟨l, hlx, hl4⟩ := Each.get r (getD_row hn6)
    have e2 : (refs ls)[n]? = some y0 := e2
    rw [refs_at hlx] at e2
    cases e2
    cases e1
    have fx := hf _ (row_mem hn6)
    have s5 := same_new (o := .tup [V.int (n : Nat), V.ref l]) nt
    have more : rows.take (n + 1) = rows.take n ++ [rows.getD n []] := by
      have e := List.take_succ_eq_append_getElem hn6
      rw [e, List.getD_eq_getElem?_getD, List.getElem?_eq_getElem hn6]
      rfl
    refine ⟨t, _, rfl, SqT.of upd_same, rfl, _, _, rfl, _, _, rfl, rfl, rfl, yes_go ?_⟩
    refine ⟨_, rfl, 1, (n : Nat), rfl, rfl, _, rfl, fun xn dn nx nd ne => ⟨xn, dn, 1 + (n : Nat), (n : Nat), rfl, upd_same, by omega, by omega, by omega, by omega, fun H6 s6 e6 => ⟨rfl, ?_⟩⟩⟩
    have s56 := s5.trans (same_made nx nd s6)
    refine ⟨_, rfl, .ref l, _, rfl, .inl ⟨l, rfl, s56 _ _ (s4 _ _ hl4)⟩, fx.le, fx.fix, fun H7 q dq tq s7 O7 => ?_⟩
    rw [fx.lined] at O7
    intro xr dr nxr ndr ner
    have sr : Same H7 (upd (upd H7 dr (.own xr)) xr (.ins (gRe K) dr [])) := fun c u e => by
      rw [upd_ne (ne_of_none e nxr), upd_ne (ne_of_none e ndr)]
      exact e
    refine ⟨xr, dr, xn, q, rfl, ne_of_none O7.ob nxr, upd_same, ⟨dn, _, sr _ _ (s7 _ _ e6)⟩, ⟨dq, _, sr _ _ O7.ob⟩, fun H8 s8 e8 => ⟨rfl, ?_⟩⟩
    have s78 := same_made nxr ndr s8
    have s48 := s56.trans (s7.trans s78)
    have hD8 := s48 _ _ hD
    have sN := sameN_upd (o := .lst (refs ps ++ [V.ref xr])) hD8
    have new : IsRel K H8 xr (rows.getD n []) := ⟨dr, xn, q, e8, ⟨dn, _, s78 _ _ (s7 _ _ e6)⟩, dq, tq, O7.same s78⟩
    refine ⟨_, hD8, by rw [List.length_map, hl, sizeLine_eq]; omega, same_keep (s4.trans s48) nD, ps ++ [xr], by rw [List.length_append, hl]; rfl, refs_snoc, ?_⟩
    rw [more]
    exact Each.snoc (Each.same (fun _ _ h => IsRel.sameN h sN) (rels_same hS s48)) (new.sameN sN)
  · rintro H4 ⟨s4, ps, hl, hD, hS⟩
    rw [List.length_map, hlen, List.take_length] at hS
    exact k D0 ps H4 s4 hD hS
end
end K6
set_option Elab.async false
set_option linter.all false
set_option maxRecDepth 100000
set_option maxHeartbeats 1000000
/-! _law_row_right: its readings, from the notes on. -/
namespace K6
open PySem PySem.Spec PyProof.Rows L2 RV EV He EF EI Kw
def tW4 (K : PySem.W.Frag) : TS := tPar 4 5 (tCons (tIx K 3 (tC (V.int 0))) (tCons (tNgN K (tIx K 3 (tC (V.int 0)))) tNil))
def tW5b (K : PySem.W.Frag) : TS := tSeq (tAug 4 (tVar 6) (Oo.rOwn2 K (gNo K) (fun t => t = .ref (gNo K)) (spAdd K) E0)) (tAsg (tAdN K (tNgN K (tVar 6)) (tVar 5)) (gName 5))
def tW5 (K : PySem.W.Frag) : TS := tFor (iList K (tSl (rSlL K) (tVar 3) (tPart (tC (V.int 1))) tNoPart)) (gName 6) (tW5b K)
def tLcR (K : PySem.W.Frag) (e1 e2 : TE) : TE := tLc (iList K (tIx K 1 e1)) (gName 13) (tTest (tOp (rIn K true) (tVar 13) (tIx K 1 e2))) (tVar 13) [13]
def tW6 (K : PySem.W.Frag) : TS := tPar 7 8 (tCons (tLcR K tM1 (tC (V.int 0))) (tCons (tLcR K (tC (V.int 0)) tM1) tNil))
def tW7 (K : PySem.W.Frag) : TS := tAsg (tMake (gNo K) (spNoI K) [] E0 (tCons (tCall (spLlot K) [] E0 (tCons (tVar 7) tNil)) (tCons (tCall (spLlot K) [] E0 (tCons (tVar 8) tNil)) tNil))) (gName 9)
abbrev tNo : TS := tRet (tC (V.bl false))
def tW8 (K : PySem.W.Frag) : TS := tIfS (tOr (tTest (tNeN K (tVar 4) (tVar 9))) (tOr (tTest (tNeN K (tCallKw (spNof K) [1, 0] 2 E0 (tCons (tIx K 2 tM1) (tCons (tIx K 2 (tC (V.int 0))) tNil))) (tVar 9)))
  (tOr (tTest (tNeN K (tVar 5) (tNgN K (tVar 9)))) (tTest (tOp rNe (tCB (Ow.rBoolO (gNo K) (spBoN K) E0) (tCons (tVar 4) tNil)) (tOp (rNeD K) (tIx K 1 (tC (V.int 0))) (tIx K 1 tM1))))))) tNo tNext
def tW9 (K : PySem.W.Frag) : TS := tIfS (tAnd (tTest (tOp rGtI (tCB (rLenS K) (tCons (tVar 3) tNil)) (tC (V.int 2))))
  (tTest (tNeN K (tAdN K (tAdN K (tIx K 3 (tC (V.int 0))) (tIx K 3 (tC (V.int 1)))) (tIx K 3 (tC (V.int 2)))) (tAdN K (tIx K 3 (tC (V.int 0))) (tAdN K (tIx K 3 (tC (V.int 1))) (tIx K 3 (tC (V.int 2)))))))) tNo tNext
abbrev tNewL (K : PySem.W.Frag) : TE := fun _ H Q => Oo.wNew (gO K) (spStar (spLi K)) E0 [] H Q
def tWx (K : PySem.W.Frag) : TS := tRet (tOp (Oo.rOwn2 K (gNo K) (fun t => PySem.W.notFirst K (gNo K) t = true) (spEqN K) E0) (tAdN K (tVar 4) (tNgN K (tVar 4)))
  (tMake (gNo K) (spNoI K) [] E0 (tCons (tNewL K) (tCons (tNewL K) tNil))))
def tRw (K : PySem.W.Frag) : TS := tSeq tW1 (tSeq (tW2 K) (tSeq (tW3 K) (tSeq (tW4 K) (tSeq (tW5 K) (tSeq (tW6 K) (tSeq (tW7 K) (tSeq (tW8 K) (tSeq (tW9 K) (tWx K)))))))))
theorem atI_neg {α : Type} {xs : List α} {v : α} (h : xs[xs.length - 1]? = some v) : atI xs (-1) = some v := by
  have ne : xs ≠ [] := fun e => by
    rw [e] at h
    cases h
  obtain ⟨ys, z, rfl⟩ : ∃ ys z, xs = ys ++ [z] := ⟨xs.dropLast, xs.getLast ne, (List.dropLast_concat_getLast ne).symm⟩
  rw [List.length_append, List.length_singleton, Nat.add_sub_cancel, List.getElem?_append_right (Nat.le_refl _), Nat.sub_self] at h
  cases h
  exact atI_last ys v
theorem cut1 (xs : List V) : cutV xs (some 1) none = xs.drop 1 := by
  unfold cutV
  rw [show (some (1 : Int)) = some ((1 : Nat) : Int) from rfl, HT.sIx_nat, HT.sIx_none]
  cases xs with
  | nil => rfl
  | cons x r => simp
theorem addS {P : Program} {w : World} {K : PySem.W.Frag} {mg : Str → Option Value} {base : Heap} {H : Hp} {Q : VK} {E : XK} {p q : Addr} {a b c : List Str} {ok : Value → Prop} (T : KF P w K mg base) (o : ok (.ref (gNo K))) (hp : SN K H p a b) (hq : SN K H q b c) (ha : FxOk a) (hc : FxOk c)
    (k : ∀ x H', Same H H' → SN K H' x a c → Q (.ref x) H') : Oo.rOwn2 K (gNo K) ok (spAdd K) E (.ref p) (.ref q) H Q :=
  add_read T hp hq o (AddR.good tel_apart1 tel_apart2 (tel_gain hc.asc) (tel_lost ha.asc) (sift_le hc.le) (sift_le ha.le) k)
theorem negS {K : PySem.W.Frag} {H : Hp} {Q : VK} {E : XK} {p : Addr} {a b : List Str} (hp : SN K H p a b) (k : ∀ x H', Same H H' → SN K H' x b a → Q (.ref x) H') : Oo.rNegO (gNo K) (spNeg K) E (.ref p) H Q := neg_read hp apart_sift k
section
variable {P : Program} {w : World} {mg : Str → Option Value} {base : Heap} {K : PySem.W.Frag} {H : Hp} {D : Ends} {v0 : Option V} {R S N t bk gl ll du : Addr} {rs ps ns : List Addr} {rows : List (List Str)} {a4 a5 a6 a7 a8 a9 : Option V}
theorem row3 (T : KF P w K mg base) (hS : H S = some (.lst (refs ps))) (r : RelsAt K H ps rows) (r6 : Rows6 rows)
    (k : ∀ N ns H', Same H H' → H' N = some (.lst (refs ns)) → NotesAt K H' ns (stepsL rows (rows.length - 1)) → D.nx [v0, some (.ref R), some (.ref S), some (.ref N), none, none, none, none, none, none, none, none, none, none] H') :
    tW3 K D [v0, some (.ref R), some (.ref S), none, none, none, none, none, none, none, none, none, none, none] H := by
  obtain ⟨h2, h6, hf⟩ := r6
  have hlen := r.len
  have e1 : (refs ps).length = rows.length := by rw [List.length_map, hlen]
  refine ⟨_, rfl, S, refs ps, rfl, .inl (SqL.of hS), _, 1, rfl, rfl, _, rfl, by rw [e1]; omega, by rw [e1]; omega, fun D0 nD => ?_⟩
  refine lc_it (σ := [v0, some (.ref R), some (.ref S), none, none, none, none, none, none, none, none, none, none, none]) (vs := [11]) (walk_range (lo := 0) (n := (((refs ps).length : Int) - 1).toNat))
    (fun n H' => Same H H' ∧ ∃ ns, ns.length = n ∧ H' D0 = some (.lst (refs ns)) ∧ NotesAt K H' ns (stepsL rows n)) ⟨same_keep (fun _ _ e => e) nD, [], rfl, upd_same, trivial⟩ (fun _ _ _ _ => trivial) ?_ ?_
  · rintro n x H4 H5 hn ⟨s4, ns, hl, hD, hN⟩ ⟨rfl, rfl⟩
    have hn1 : n + 1 < rows.length := by omega
    obtain ⟨p1, a1, q1⟩ := Each.get (rels_same r s4) (getD_row (rows := rows) (j := n) (by omega))
    obtain ⟨p2, a2, q2⟩ := Each.get (rels_same r s4) (getD_row (rows := rows) (j := n + 1) hn1)
    refine ⟨rfl, yes_go ?_⟩
    refine ⟨_, rfl, _, rfl, S, _, (0 + (n : Nat) : Int), _, rfl, rfl, SqL.of (s4 _ _ hS), by rw [Int.zero_add]; exact atI_nat (refs_at a1), ?_⟩
    refine ⟨_, rfl, _, rfl, 0 + (n : Nat), 1, rfl, rfl, S, _, _, _, rfl, rfl, SqL.of (s4 _ _ hS), by rw [show (0 + (n : Nat) + 1 : Int) = ((n + 1 : Nat) : Int) by omega]; exact atI_nat (refs_at a2), ?_⟩
    refine ⟨p1, p2, _, _, rfl, q1, q2, fun y H6 s6 new => ?_⟩
    have hD6 := s6 _ _ hD
    have sN := sameN_upd (o := .lst (refs ns ++ [V.ref y])) hD6
    refine ⟨_, hD6, by rw [List.length_map, hl, sizeLine_eq]; omega, same_keep (s4.trans s6) nD, ns ++ [y], by rw [List.length_append, hl]; rfl, refs_snoc, ?_⟩
    rw [stepsL_succ]
    exact Each.snoc (Each.same (fun _ _ h => IsNote.sameN h sN) (notes_same hN s6)) (IsNote.sameN new sN)
  · rintro H4 ⟨s4, ns, hl, hD, hN⟩
    rw [show (((refs ps).length : Int) - 1).toNat = rows.length - 1 by rw [e1]; omega] at hN
    exact k D0 ns H4 s4 hD hN
theorem row4 (T : KF P w K mg base) (hN : H N = some (.lst (refs ns))) (r : NotesAt K H ns (stepsL rows (rows.length - 1))) (r6 : Rows6 rows)
    (k : ∀ t bk H', Same H H' → SN K H' t (rows.getD 0 []) (rows.getD 1 []) → SN K H' bk (rows.getD 1 []) (rows.getD 0 []) → D.nx [v0, some (.ref R), some (.ref S), some (.ref N), some (.ref t), some (.ref bk), none, none, none, none, none, none, none, none] H') :
    tW4 K D [v0, some (.ref R), some (.ref S), some (.ref N), none, none, none, none, none, none, none, none, none, none] H := by
  obtain ⟨h2, h6, hf⟩ := r6
  obtain ⟨p1, a1, q1⟩ := Each.get r (stepsL_at (rows := rows) (n := rows.length - 1) (j := 0) (by omega))
  have i0 : atI (refs ns) (0 : Int) = some (.ref p1) := atI_nat (j := 0) (refs_at a1)
  refine ⟨_, rfl, N, _, _, _, rfl, rfl, SqL.of hN, i0, _, rfl, N, _, _, _, rfl, rfl, SqL.of hN, i0, ?_⟩
  exact negS (a := rows.getD 0 []) (b := rows.getD 1 []) q1 fun x H' s' n => ⟨_, _, rfl, k p1 x H' s' (IsNote.same q1 s') n⟩
theorem row5 (T : KF P w K mg base) (hN : H N = some (.lst (refs ns))) (r : NotesAt K H ns (stepsL rows (rows.length - 1))) (r6 : Rows6 rows) (ht : SN K H t (rows.getD 0 []) (rows.getD 1 [])) (hb : SN K H bk (rows.getD 1 []) (rows.getD 0 []))
    (k : ∀ t bk a6 H', Same H H' → SN K H' t (rows.getD 0 []) (rows.getD (rows.length - 1) []) → SN K H' bk (rows.getD (rows.length - 1) []) (rows.getD 0 []) → D.nx [v0, some (.ref R), some (.ref S), some (.ref N), some (.ref t), some (.ref bk), a6, none, none, none, none, none, none, none] H') :
    tW5 K D [v0, some (.ref R), some (.ref S), some (.ref N), some (.ref t), some (.ref bk), none, none, none, none, none, none, none, none] H := by
  obtain ⟨h2, h6, hf⟩ := r6
  have hl : ns.length = rows.length - 1 := r.len.trans (by unfold stepsL; rw [List.length_map, List.length_range])
  refine ⟨_, rfl, 1, rfl, N, _, rfl, SqL.of hN, fun L nL => ?_⟩
  rw [cut1, ← List.map_drop]
  have s1 := same_new (o := .lst ((ns.drop 1).map V.ref)) nL
  refine ⟨L, rfl, ⟨_, SqL.of upd_same⟩, ?_⟩
  have lw : ((ns.drop 1).map V.ref).length = rows.length - 2 := by rw [List.length_map, List.length_drop, hl]; omega
  refine for_list (K := K) (a := L) (xs := (ns.drop 1).map V.ref) (tb := tW5b K) (g := gName 6) (D := D)
    (fun i σ' H' => Same (upd H L (.lst ((ns.drop 1).map V.ref))) H' ∧ ∃ t bk a6, σ' = [v0, some (.ref R), some (.ref S), some (.ref N), some (.ref t), some (.ref bk), a6, none, none, none, none, none, none, none] ∧ SN K H' t (rows.getD 0 []) (rows.getD (i + 1) []) ∧ SN K H' bk (rows.getD (i + 1) []) (rows.getD 0 []))
    ⟨fun _ _ e => e, t, bk, none, rfl, IsNote.same ht s1, IsNote.same hb s1⟩ (fun i σ' H' _ q => SqL.of (q.1 _ _ upd_same)) ?_ ?_
  · rintro i v σ' H' hv ⟨s', t', b', a6, rfl, ht', hb'⟩
    have hi : i < rows.length - 2 := by
      have := (List.getElem?_eq_some_iff.mp hv).1
      omega
    obtain ⟨q, aq, hq⟩ := Each.get (notes_same (notes_same r s1) s') (stepsL_at (rows := rows) (n := rows.length - 1) (j := i + 1) (by omega))
    have hv' : v = .ref q := by
      rw [List.getElem?_map, List.getElem?_drop, Nat.add_comm 1 i, aq] at hv
      exact (Option.some.inj hv).symm
    subst hv'
    have f0 := hf _ (row_mem (rows := rows) (j := 0) (by omega))
    have f2 := hf _ (row_mem (rows := rows) (j := i + 2) (by omega))
    refine ⟨_, rfl, _, rfl, addS (a := rows.getD 0 []) (b := rows.getD (i + 1) []) (c := rows.getD (i + 2) []) T rfl ht' hq f0 f2 fun x H2 s2 nx => ?_⟩
    refine ⟨_, rfl, negS (a := rows.getD (i + 1) []) (b := rows.getD (i + 2) []) (IsNote.same hq s2) fun y H3 s3 ny => ⟨_, rfl, ?_⟩⟩
    refine addS (a := rows.getD (i + 2) []) (b := rows.getD (i + 1) []) (c := rows.getD 0 []) T (.inl rfl) ny (IsNote.same hb' (s2.trans s3)) f2 f0 fun z H4 s4 nz => ?_
    exact ⟨s'.trans (s2.trans (s3.trans s4)), x, z, _, rfl, IsNote.same nx (s3.trans s4), nz⟩
  · rintro σ' H' ⟨s', t', b', a6, rfl, ht', hb'⟩
    rw [lw, show rows.length - 2 + 1 = rows.length - 1 by omega] at ht' hb'
    exact k t' b' a6 H' (s1.trans s') ht' hb'
end
end K6
set_option Elab.async false
set_option linter.all false
set_option maxRecDepth 100000
set_option maxHeartbeats 1000000
/-! _law_row_right: its readings, to the end. -/
namespace K6
open PySem PySem.Spec PyProof.Rows L2 RV EV He EF EI Kw
theorem sift_both {a b : List Str} (ha : Asc a) (hb : Asc b) : (sift b a false ++ sift a b false).isEmpty = decide (a = b) := by
  by_cases e : a = b
  · subst e
    rw [sift_self, decide_eq_true rfl]
    rfl
  · rw [decide_eq_false e]
    rcases h : sift b a false ++ sift a b false with _ | ⟨x, r⟩
    · obtain ⟨h1, h2⟩ := List.append_eq_nil_iff.mp h
      exfalso
      refine e (asc_uniq ha hb fun z => ⟨fun hz => ?_, fun hz => ?_⟩)
      · by_cases q : z ∈ b
        · exact q
        · have : z ∈ sift a b false := mem_sift.mpr ⟨hz, q⟩
          rw [h2] at this
          cases this
      · by_cases q : z ∈ a
        · exact q
        · have : z ∈ sift b a false := mem_sift.mpr ⟨hz, q⟩
          rw [h1] at this
          cases this
    · rfl
section
variable {P : Program} {w : World} {mg : Str → Option Value} {base : Heap} {K : PySem.W.Frag} {H : Hp} {D : Ends} {v0 : Option V} {R S N t bk gl ll du : Addr} {rs ps ns : List Addr} {rows : List (List Str)} {a4 a5 a6 a7 a8 a9 : Option V}
theorem ix0_read {σ : L2.St} {i : Nat} {Q : VK} {L : Addr} {as : List Addr} {x : Addr} {j : Nat} (hs : σ[i]? = some (some (.ref L))) (hL : H L = some (.lst (refs as))) (hx : as[j]? = some x) (q : Q (.ref x) H) : tIx K i (tC (V.int (j : Nat))) σ H Q :=
  ⟨_, hs, L, refs as, (j : Nat), .ref x, rfl, rfl, SqL.of hL, atI_nat (refs_at hx), q⟩
theorem ixl_read {σ : L2.St} {i : Nat} {Q : VK} {L : Addr} {as : List Addr} {x : Addr} (hs : σ[i]? = some (some (.ref L))) (hL : H L = some (.lst (refs as))) (hx : as[as.length - 1]? = some x) (q : Q (.ref x) H) : tIx K i tM1 σ H Q :=
  ⟨_, hs, 1, rfl, L, refs as, -1, .ref x, rfl, rfl, SqL.of hL, atI_neg (by rw [List.length_map]; exact refs_at hx), q⟩
theorem lcR_read {σ : L2.St} {Q : VK} {e1 e2 : TE} {l1 l2 : Addr} {a b : List Str} (ha : H l1 = some (.lst (a.map V.str))) (hb : H l2 = some (.lst (b.map V.str))) (la : a.length ≤ 1000) (hz : ∀ z : Str, ((wipe σ [13]).set 13 (some (V.str z)))[13]? = some (some (.str z))) (hw : ∀ v, wipe ((wipe σ [13]).set 13 (some v)) [13] = wipe σ [13])
    (r1 : ∀ Q' : VK, Q' (.ref l1) H → tIx K 1 e1 σ H Q') (r2 : ∀ (z : Str) (H' : Hp) (Q' : VK), Same H H' → Q' (.ref l2) H' → tIx K 1 e2 ((wipe σ [13]).set 13 (some (.str z))) H' Q')
    (k : ∀ L H', Same H H' → H' L = some (.lst ((sift a b false).map V.str)) → Q (.ref L) H') : tLcR K e1 e2 σ H Q := by
  refine r1 _ ⟨l1, rfl, ⟨_, SqL.of ha⟩, fun D0 nD => ?_⟩
  refine lcl (K := K) (σ := σ) (i := 13) (tt := tTest (tOp (rIn K true) (tVar 13) (tIx K 1 e2))) (te := tVar 13) (p := fun x => decide (x ∈ b) == false) (enc := V.str) (out := V.str) (ns := a) (fun H' s => SqL.of (s _ _ ha)) ⟨nD, la, hw, fun z _ H' F s e => ?_, fun z _ _ H' F s e => ⟨_, hz z, e _ fun _ _ e => e⟩, fun H3 s3 hD => k D0 H3 s3 hD⟩
  refine ⟨_, hz z, r2 z H' _ s ⟨l2, _, rfl, .inl (SqL.of (s _ _ hb)), rfl, flat_strs b, _, rfl, ?_⟩⟩
  show F (!inV (.str z) (b.map V.str)) H'
  rw [inV_str]
  have e2 : (!decide (z ∈ b)) = (decide (z ∈ b) == false) := by cases decide (z ∈ b) <;> rfl
  rw [e2]
  exact e _ fun _ _ e => e
theorem row6 (hR : H R = some (.lst (refs rs))) (r : RowsAt H rs rows) (r6 : Rows6 rows)
    (k : ∀ g l H', Same H H' → H' g = some (.lst ((sift (rows.getD (rows.length - 1) []) (rows.getD 0 []) false).map V.str)) → H' l = some (.lst ((sift (rows.getD 0 []) (rows.getD (rows.length - 1) []) false).map V.str)) →
      D.nx [v0, some (.ref R), some (.ref S), some (.ref N), some (.ref t), some (.ref bk), a6, some (.ref g), some (.ref l), none, none, none, none, none] H') :
    tW6 K D [v0, some (.ref R), some (.ref S), some (.ref N), some (.ref t), some (.ref bk), a6, none, none, none, none, none, none, none] H := by
  obtain ⟨h2, h6, hf⟩ := r6
  have hlen := r.len
  obtain ⟨l0, x0, e0⟩ := Each.get r (getD_row (rows := rows) (j := 0) (by omega))
  obtain ⟨ll, xl, el⟩ := Each.get r (getD_row (rows := rows) (j := rows.length - 1) (by omega))
  have f0 := hf _ (row_mem (rows := rows) (j := 0) (by omega))
  have fl := hf _ (row_mem (rows := rows) (j := rows.length - 1) (by omega))
  have xl : rs[rs.length - 1]? = some ll := by rw [hlen]; exact xl
  have l0' := f0.le
  have ll' := fl.le
  show tLcR K tM1 (tC (V.int 0)) [v0, some (.ref R), some (.ref S), some (.ref N), some (.ref t), some (.ref bk), a6, none, none, none, none, none, none, none] H fun x H1 => tLcR K (tC (V.int 0)) tM1 [v0, some (.ref R), some (.ref S), some (.ref N), some (.ref t), some (.ref bk), a6, none, none, none, none, none, none, none] H1 fun y H2 => ∃ v w, [x, y] = [v, w] ∧ D.nx ((List.set [v0, some (.ref R), some (.ref S), some (.ref N), some (.ref t), some (.ref bk), a6, none, none, none, none, none, none, none] 7 (some v)).set 8 (some w)) H2
  refine lcR_read (σ := [v0, some (.ref R), some (.ref S), some (.ref N), some (.ref t), some (.ref bk), a6, none, none, none, none, none, none, none]) (e2 := tC (V.int 0)) (l1 := ll) (l2 := l0) el e0 (by omega) (fun _ => rfl) (fun _ => rfl) (fun Q' q => ixl_read rfl hR xl q) (fun z H' Q' s q => ix0_read (j := 0) rfl (s _ _ hR) x0 q) fun g H1 s1 hg => ?_
  refine lcR_read (σ := [v0, some (.ref R), some (.ref S), some (.ref N), some (.ref t), some (.ref bk), a6, none, none, none, none, none, none, none]) (e1 := tC (V.int 0)) (l1 := l0) (l2 := ll) (s1 _ _ e0) (s1 _ _ el) (by omega) (fun _ => rfl) (fun _ => rfl) (fun Q' q => ix0_read (j := 0) rfl (s1 _ _ hR) x0 q) (fun z H' Q' s q => ixl_read rfl (s _ _ (s1 _ _ hR)) xl q) fun l H2 s2 hl => ?_
  exact ⟨_, _, rfl, k g l H2 (s1.trans s2) (s2 _ _ hg) hl⟩
theorem row7 {x y : List Str} (hg : H gl = some (.lst ((sift y x false).map V.str))) (hl : H ll = some (.lst ((sift x y false).map V.str))) (fx : FxOk x) (fy : FxOk y)
    (k : ∀ d H', Same H H' → SN K H' d x y → D.nx [v0, some (.ref R), some (.ref S), some (.ref N), some (.ref t), some (.ref bk), a6, some (.ref gl), some (.ref ll), some (.ref d), none, none, none, none] H') :
    tW7 K D [v0, some (.ref R), some (.ref S), some (.ref N), some (.ref t), some (.ref bk), a6, some (.ref gl), some (.ref ll), none, none, none, none, none] H := by
  have f1 := fy.sift (ms := x) (b := false)
  have f2 := fx.sift (ms := y) (b := false)
  refine ⟨_, rfl, .ref gl, _, rfl, .inl ⟨gl, rfl, hg⟩, f1.le, f1.fix, fun H1 q dq tq s1 O => ?_⟩
  rw [f1.lined] at O
  refine ⟨_, rfl, .ref ll, _, rfl, .inl ⟨ll, rfl, s1 _ _ hl⟩, f2.le, f2.fix, fun H2 q2 dq2 tq2 s2 O2 => ?_⟩
  rw [f2.lined] at O2
  exact note_new (Q := fun x H' => gName 9 x [v0, some (.ref R), some (.ref S), some (.ref N), some (.ref t), some (.ref bk), a6, some (.ref gl), some (.ref ll), none, none, none, none, none] H' D.nx) ⟨dq, tq, O.same s2⟩ ⟨dq2, tq2, O2⟩ apart_sift fun z H3 s3 n => k z H3 (s1.trans (s2.trans s3)) n
theorem row8 (T : KF P w K mg base) (hR : H R = some (.lst (refs rs))) (r : RowsAt H rs rows) (hS : H S = some (.lst (refs ps))) (rl : RelsAt K H ps rows) (r6 : Rows6 rows)
    (ht : SN K H t (rows.getD 0 []) (rows.getD (rows.length - 1) [])) (hb : SN K H bk (rows.getD (rows.length - 1) []) (rows.getD 0 [])) (hd : SN K H du (rows.getD 0 []) (rows.getD (rows.length - 1) []))
    (k : ∀ H', Same H H' → D.nx [v0, some (.ref R), some (.ref S), some (.ref N), some (.ref t), some (.ref bk), a6, a7, a8, some (.ref du), none, none, none, none] H') :
    tW8 K D [v0, some (.ref R), some (.ref S), some (.ref N), some (.ref t), some (.ref bk), a6, a7, a8, some (.ref du), none, none, none, none] H := by
  obtain ⟨h2, h6, hf⟩ := r6
  have hlen := r.len
  have hlen2 := rl.len
  obtain ⟨l0, x0, e0⟩ := Each.get r (getD_row (rows := rows) (j := 0) (by omega))
  obtain ⟨ll, xl, el⟩ := Each.get r (getD_row (rows := rows) (j := rows.length - 1) (by omega))
  obtain ⟨p0, y0, q0⟩ := Each.get rl (getD_row (rows := rows) (j := 0) (by omega))
  obtain ⟨pl, yl, ql⟩ := Each.get rl (getD_row (rows := rows) (j := rows.length - 1) (by omega))
  have f0 := hf _ (row_mem (rows := rows) (j := 0) (by omega))
  have fl := hf _ (row_mem (rows := rows) (j := rows.length - 1) (by omega))
  have xl : rs[rs.length - 1]? = some ll := by rw [hlen]; exact xl
  have yl : ps[ps.length - 1]? = some pl := by rw [hlen2]; exact yl
  refine ⟨_, rfl, _, rfl, nen_read T ht hd ⟨false, rfl, if_negB rfl ?_⟩⟩
  refine ixl_read rfl hS yl (ix0_read (j := 0) rfl hS y0 ⟨rfl, p0, pl, _, _, rfl, q0, ql, fun x H1 s1 nx => ?_⟩)
  refine ⟨_, rfl, nen_read T nx (IsNote.same hd s1) ⟨false, rfl, if_negB rfl ?_⟩⟩
  refine ⟨_, rfl, _, rfl, negS (IsNote.same hd s1) fun y H2 s2 ny => nen_read T (IsNote.same hb (s1.trans s2)) ny ⟨false, rfl, if_negB rfl ?_⟩⟩
  have s12 := s1.trans s2
  have ht2 := IsNote.same ht s12
  have ht3 := ht2
  obtain ⟨dx, _, _, NO⟩ := ht3
  refine ⟨_, rfl, t, dx, _, rfl, NO.ob, t, _, _, rfl, ht2, _, rfl, ?_⟩
  refine ix0_read (j := 0) rfl (s12 _ _ hR) x0 (ixl_read rfl (s12 _ _ hR) xl (neL (SqL.of (s12 _ _ e0)) (SqL.of (s12 _ _ el)) (fun x hx => fix_ok (f0.fix x hx)) (fun x hx => fix_ok (fl.fix x hx)) ?_))
  refine ⟨rfl, false, ?_, if_negB rfl (k H2 s12)⟩
  rw [sift_both f0.asc fl.asc, decide_eq_true rfl]
  rfl
theorem row9 (T : KF P w K mg base) (hN : H N = some (.lst (refs ns))) (r : NotesAt K H ns (stepsL rows (rows.length - 1))) (r6 : Rows6 rows)
    (k : ∀ H', Same H H' → D.nx [v0, some (.ref R), some (.ref S), some (.ref N), some (.ref t), some (.ref bk), a6, a7, a8, some (.ref du), none, none, none, none] H') :
    tW9 K D [v0, some (.ref R), some (.ref S), some (.ref N), some (.ref t), some (.ref bk), a6, a7, a8, some (.ref du), none, none, none, none] H := by
  obtain ⟨h2, h6, hf⟩ := r6
  have hl : ns.length = rows.length - 1 := r.len.trans (by unfold stepsL; rw [List.length_map, List.length_range])
  refine ⟨_, rfl, N, _, rfl, .inl (SqL.of hN), _, 2, rfl, rfl, _, rfl, ?_⟩
  by_cases h : (2 : Int) < ((refs ns).length : Nat)
  · have h3 : 3 < rows.length := by
      rw [List.length_map, hl] at h
      omega
    obtain ⟨p0, x0, n0⟩ := Each.get r (stepsL_at (rows := rows) (n := rows.length - 1) (j := 0) (by omega))
    obtain ⟨p1, x1, n1⟩ := Each.get r (stepsL_at (rows := rows) (n := rows.length - 1) (j := 1) (by omega))
    obtain ⟨p2, x2, n2⟩ := Each.get r (stepsL_at (rows := rows) (n := rows.length - 1) (j := 2) (by omega))
    have f0 := hf _ (row_mem (rows := rows) (j := 0) (by omega))
    have f1 := hf _ (row_mem (rows := rows) (j := 1) (by omega))
    have f2 := hf _ (row_mem (rows := rows) (j := 2) (by omega))
    have f3 := hf _ (row_mem (rows := rows) (j := 3) (by omega))
    refine if_posB (decide_eq_true h) ?_
    refine ix0_read (j := 0) rfl hN x0 (ix0_read (j := 1) rfl hN x1 (addS (a := rows.getD 0 []) (b := rows.getD 1 []) (c := rows.getD 2 []) T (.inl rfl) n0 n1 f0 f2 fun y H1 s1 ny => ?_))
    refine ix0_read (j := 2) rfl (s1 _ _ hN) x2 (addS (a := rows.getD 0 []) (b := rows.getD 2 []) (c := rows.getD 3 []) T (.inl rfl) ny (IsNote.same n2 s1) f0 f3 fun z H2 s2 nz => ?_)
    have s12 := s1.trans s2
    refine ix0_read (j := 0) rfl (s12 _ _ hN) x0 (ix0_read (j := 1) rfl (s12 _ _ hN) x1 (ix0_read (j := 2) rfl (s12 _ _ hN) x2 (addS (a := rows.getD 1 []) (b := rows.getD 2 []) (c := rows.getD 3 []) T (.inl rfl) (IsNote.same n1 s12) (IsNote.same n2 s12) f1 f3 fun u H3 s3 nu => ?_)))
    refine addS (a := rows.getD 0 []) (b := rows.getD 1 []) (c := rows.getD 3 []) T (.inl rfl) (IsNote.same n0 (s12.trans s3)) nu f0 f3 fun v H4 s4 nv => ?_
    exact nen_read T (IsNote.same nz (s3.trans s4)) nv ⟨false, rfl, if_negB rfl (k H4 (s12.trans (s3.trans s4)))⟩
  · exact if_negB (decide_eq_false h) (if_negB rfl (k H fun _ _ e => e))
theorem new_none {Q : VK} (k : ∀ q H', Same H H' → IsLot K H' q [] → Q (.ref q) H') : Oo.wNew (gO K) (spStar (spLi K)) E0 [] H Q :=
  new_of (K := K) (xs := []) (MkLot.good (ss := []) (by decide) (fun _ z => nomatch z) fun H1 s1 => ⟨fun _ H2 p0 dx0 tp0 s2 O0 => k p0 H2 (s1.trans s2) ⟨dx0, tp0, O0⟩, fun h => absurd h (by decide)⟩)
theorem note_none {σ : L2.St} {Q : VK} (k : ∀ u H', Same H H' → IsNote K H' u [] [] → Q (.ref u) H') : tMake (gNo K) (spNoI K) [] E0 (tCons (tNewL K) (tCons (tNewL K) tNil)) σ H Q := by
  show Oo.wNew (gO K) (spStar (spLi K)) E0 [] H (fun x H1 => Oo.wNew (gO K) (spStar (spLi K)) E0 [] H1 (fun x2 H2 => ∀ u dx, H2 u = none → H2 dx = none → dx ≠ u → spNoI K (.ref u :: ([x, x2] ++ [])) (upd (upd H2 dx (.own u)) u (.ins (gNo K) dx [])) (fun v H3 => v = .non ∧ Q (.ref u) H3) E0))
  refine new_none fun q H3 s3 O3 => new_none fun q2 H4 s4 O4 => ?_
  exact note_new (O3.same s4) O4 rfl fun u H5 s5 nu => k u H5 (s3.trans (s4.trans s5)) nu
theorem rowx (T : KF P w K mg base) {x y : List Str} (ht : SN K H t x y) (fx : FxOk x) (fy : FxOk y) (k : ∀ H', Same H H' → D.rt (.bl true) H') :
    tWx K D [v0, some (.ref R), some (.ref S), some (.ref N), some (.ref t), some (.ref bk), a6, a7, a8, some (.ref du), none, none, none, none] H := by
  refine ⟨_, rfl, _, rfl, negS ht fun m H1 s1 nm => addS (a := x) (b := y) (c := x) T (.inl rfl) (IsNote.same ht s1) nm fx fx fun z H2 s2 nz => ?_⟩
  refine note_none fun u H5 s5 nu => eqn_read T (IsNote.same nz s5) nu ?_
  rw [sift_self, decide_eq_true rfl]
  exact k H5 (s1.trans (s2.trans s5))
end
end K6
set_option Elab.async false
set_option linter.all false
set_option maxRecDepth 100000
set_option maxHeartbeats 1000000
/-! _law_row_right: its code. -/
namespace K6
open PySem PySem.Spec PyProof.Rows L2 RV EV He EF EI Kw
abbrev sRw : Stmt := top 47
abbrev scRw_N : List Str := ["_law_pen_here", "_law_rows", "_law_some", "_law_notes", "_law_told", "_law_backward", "_law_note", "_law_gained", "_law_lost", "_law_due", "_law_turn", "_law_at", "_law_row", "_law_fix"]
theorem scRw : FnScope scRw_N ["_law_pen_here"] (defScope sRw) := ⟨rfl, rfl, rfl, by decide +kernel, rfl, by decide +kernel, by decide +kernel⟩
section
variable {P : Program} {w : World} {K : PySem.W.Frag} {mg : Str → Option Value} {base : Heap}
theorem lm_note (T : KF P w K mg base) : PySem.W.findIn K (.ref (gNo K)) "__ne__" = some (some (.builtin "object.__ne__")) ∧ PySem.W.mroIn K (gNo K) (.type "object") = some true := by
  obtain ⟨z1, _, _, z4⟩ := noteF T
  obtain ⟨_, h⟩ := ba z1
  obtain ⟨h2, _⟩ := ba h
  exact ⟨z4, of_decide_eq_true h2⟩
theorem code_row (T : KF P w K mg base) {f : Addr} {A : Around} {outer : List Env} {s : Shared} {H : Hp} {E : XK} {cdv : Value} (hr : Room 12 (A.deeper (envOfC "_law_row_right" (defScope sRw) s.heap.objs.size f cdv))) :
    ∃ t, PSs (cxOf CX0 P w K mg base scRw_N "_law_row_right" (defScope sRw) f cdv A outer s H E) (defBody sRw) t ∧ t = tRw K := by
  obtain ⟨fD, GD, bD, kD, gD⟩ := c_draw (w := w) T
  obtain ⟨fF, GF, bF, kF, gF⟩ := c_fxs (w := w) T
  obtain ⟨fL, GL, bL, kL, gL⟩ := c_llot (w := w) T
  obtain ⟨fn, Gn, bn, mn, gn⟩ := mk_note (w := w) T
  obtain ⟨fu, Gu, bu, mu, gu⟩ := mk_num (w := w) T
  obtain ⟨fr, Gr, br, mr, gr⟩ := mk_rel (w := w) T
  obtain ⟨fo, Go, bo, ko, go, bk⟩ := kw_nof (w := w) T
  obtain ⟨_, fe, Fe⟩ := T.note ("__eq__", 3) (by decide)
  have be : L2.Binds K fe ["self", "other"] [] := FunD.bindsN Fe fun _ _ _ _ _ _ us hl => match us, hl with | [_, _], _ => rfl
  have Ge := ok_noEq T Fe
  obtain ⟨ln, lo⟩ := lm_note T
  obtain ⟨_, fb, Fb⟩ := T.note ("__bool__", 4) (by decide)
  have bb : L2.Binds K fb ["self"] [] := FunD.bindsN Fb fun _ _ _ _ _ _ us hl => match us, hl with | [_], _ => rfl
  have Gb := ok_noBo T Fb
  have hu := hr.units
  have nd := scRw.nd
  refine ⟨_, PSs.nox
    (pss_cons (ps_set (i := 1) nd rfl (.inr rfl) (pe_lc (own := [("_law_turn", 10)]) (g := gName 10) (tt := tYes) (te := tCall spFxs [] E0 (tCons (tVar 0) (tCons (tC (.int 2)) tNil))) rfl nd
        (pi_range1 (by rfl) (T.fr "range" (by decide)) (pa_cons (pe_op op_add pe_int (pe_call (E := E0) GD (hr.mono (by decide)) (by rfl) gD kD bD .nil pass0 (pa_cons (pv 0) (pa_cons pe_int pa_nil)))) pa_nil))
        (blkOk_by (N := scRw_N) (sc := defScope sRw) (by decide +kernel)) (fun _ _ _ _ _ => pg_name (i := 10) nd rfl (.inl rfl)) (fun _ _ _ _ _ => pts_nil)
        (fun _ _ _ _ _ => pe_call (E := E0) GF (hr.mono (by decide)) (by rfl) gF kF bF .nil pass0 (pa_cons (pv 0) (pa_cons pe_int pa_nil)))))
    (pss_cons (ps_set (i := 2) nd rfl (.inr rfl) (pe_lc (own := [("_law_at", 11), ("_law_row", 12)]) (g := gTup K 2 (gCons (gName 11) (gCons (gName 12) gNil))) (tt := tYes)
          (te := tMake (gRe K) (spReI K) [] E0 (tCons (tMake (gNu K) (spNuI K) [] E0 (tCons (tOp (rI0 fun i j => V.int (i + j)) (tC (.int 1)) (tVar 11)) (tCons (tVar 11) tNil))) (tCons (tCall (spLlot K) [] E0 (tCons (tVar 12) tNil)) tNil))) rfl nd
        (pi_enum (by rfl) (T.fr "enumerate" (by decide)) (pa_cons (pv 1) pa_nil))
        (blkOk_by (N := scRw_N) (sc := defScope sRw) (by decide +kernel)) (fun _ _ _ _ _ => pg_tup (by rfl) (pgs_cons (pg_name (i := 11) nd rfl (.inl rfl)) (pgs_cons (pg_name (i := 12) nd rfl (.inl rfl)) pgs_nil))) (fun _ _ _ _ _ => pts_nil)
        (fun _ _ _ _ _ => pe_make (E := E0) mr Gr (hr.mono (by decide)) (by rfl) gr br .nil passL (pa_cons (pe_make (E := E0) mu Gu (hr.mono (by decide)) (by rfl) gu bu .nil passL (pa_cons (pe_op op_add pe_int (pv 11)) (pa_cons (pv 11) pa_nil)))
          (pa_cons (pe_call (E := E0) GL (hr.mono (by decide)) (by rfl) gL kL bL .nil pass0 (pa_cons (pv 12) pa_nil)) pa_nil)))))
    (pss_cons (ps_setLc (i := 3) (own := [("_law_at", 11)]) (g := gName 11) (tt := tYes) (te := tCall (spNof K) [] E0 (tCons (tOp (rIxL K) (tVar 2) (tVar 11)) (tCons (tOp (rIxL K) (tVar 2) (tOp (rI0 fun i j => V.int (i + j)) (tVar 11) (tC (.int 1)))) tNil))) rfl nd rfl rfl (sw_true rfl rfl rfl (by decide +kernel))
        (pi_range1 (by rfl) (T.fr "range" (by decide)) (pa_cons (pe_op op_sub (pe_callB call_len_seq (by rfl) (T.fr "len" (by decide)) PySem.boot_len (pa_cons (pv 2) pa_nil)) pe_int) pa_nil))
        (blkOk_by (N := scRw_N) (sc := defScope sRw) (by decide +kernel)) (fun _ _ _ _ _ => pg_name (i := 11) nd rfl (.inl rfl)) (fun _ _ _ _ _ => pts_nil)
        (fun _ _ _ _ _ => pe_call (E := E0) Go (hr.mono (by decide)) (by rfl) go ko bo .nil passL (pa_cons (pe_ix ix_list (pv 2) (pv 11) (fun _ _ => rfl)) (pa_cons (pe_ix ix_list (pv 2) (pe_op op_add (pv 11) pe_int) (fun _ _ => rfl)) pa_nil))))
    (pss_cons (ps_par (i := 4) (j := 5) rfl nd rfl rfl (by decide) rfl rfl (pa_cons (pe_ix ix_list (pv 3) pe_int (fun _ _ => rfl)) (pa_cons (pe_un (Oo.un_negO (E := E0) (nm T ("__neg__", 5) (by decide)) (r_neg T) (hr.mono (by decide)) passL) (pe_ix ix_list (pv 3) pe_int (fun _ _ => rfl))) pa_nil)) (by rfl))
    (pss_cons (ps_for PassesOwn.never rfl (pi_list (pe_slice sl_list (pv 3) (po_some pe_int) po_none)) (pg_name (i := 6) nd rfl (.inl rfl))
      (pss_cons (ps_aug (i := 4) nd rfl (.inl rfl) (pv 6) (Oo.op_inp (E := E0) (opc_add T) Oo.no_add.2.2 (r_add T) (hr.mono (by decide)) passL))
      (pss_one (ps_set (i := 5) nd rfl (.inl rfl) (pe_op (Oo.op_add (E := E0) (opc_add T) (r_add T) (hr.mono (by decide)) passL) (pe_un (Oo.un_negO (E := E0) (nm T ("__neg__", 5) (by decide)) (r_neg T) (hr.mono (by decide)) passL) (pv 6)) (pv 5))))))
    (pss_cons (ps_par (i := 7) (j := 8) rfl nd rfl rfl (by decide) rfl rfl
      (pa_cons (pe_lc (own := [("_law_fix", 13)]) (g := gName 13) (tt := tTest (tOp (rIn K true) (tVar 13) (tOp (rIxL K) (tVar 1) (tC (.int 0))))) (te := tVar 13) rfl nd (pi_list (pe_ix ix_list (pv 1) (pe_un un_neg pe_int) (fun _ _ => rfl)))
          (blkOk_by (N := scRw_N) (sc := defScope sRw) (by decide +kernel)) (fun _ _ _ _ _ => pg_name (i := 13) nd rfl (.inl rfl)) (fun _ _ _ _ _ => pts_one (pt_cmpR op_notIn_seq (pv 13) (pe_ix ix_list (pv 1) pe_int (fun _ _ => rfl)) rfl)) (fun _ _ _ _ _ => pv 13))
        (pa_cons (pe_lc (own := [("_law_fix", 13)]) (g := gName 13) (tt := tTest (tOp (rIn K true) (tVar 13) (tOp (rIxL K) (tVar 1) (tUn (rU fun i => V.int (-i)) (tC (.int 1)))))) (te := tVar 13) rfl nd (pi_list (pe_ix ix_list (pv 1) pe_int (fun _ _ => rfl)))
          (blkOk_by (N := scRw_N) (sc := defScope sRw) (by decide +kernel)) (fun _ _ _ _ _ => pg_name (i := 13) nd rfl (.inl rfl)) (fun _ _ _ _ _ => pts_one (pt_cmpR op_notIn_seq (pv 13) (pe_ix ix_list (pv 1) (pe_un un_neg pe_int) (fun _ _ => rfl)) rfl)) (fun _ _ _ _ _ => pv 13)) pa_nil)) (by rfl))
    (pss_cons (ps_set (i := 9) nd rfl (.inl rfl) (pe_make (E := E0) mn Gn (hr.mono (by decide)) (by rfl) gn bn .nil passL (pa_cons (pe_call (E := E0) GL (hr.mono (by decide)) (by rfl) gL kL bL .nil pass0 (pa_cons (pv 7) pa_nil)) (pa_cons (pe_call (E := E0) GL (hr.mono (by decide)) (by rfl) gL kL bL .nil pass0 (pa_cons (pv 8) pa_nil)) pa_nil))))
    (pss_cons (ps_if (PW.pt (pw_or (pt_cmpR (Oo.op_neO (E := E0) (nm T ("__eq__", 3) (by decide)) ln lo Ge be (hr.mono (by decide)) pass0) (pv 4) (pv 9) (nomark _))
        (pw_or (pt_cmpR (Oo.op_neO (E := E0) (nm T ("__eq__", 3) (by decide)) ln lo Ge be (hr.mono (by decide)) pass0) (pe_callKw (E := E0) Go (hr.mono (by decide)) (by rfl) go ko bk passL (pk_cons (pe_ix ix_list (pv 2) (pe_un un_neg pe_int) (fun _ _ => rfl)) (pk_cons (pe_ix ix_list (pv 2) pe_int (fun _ _ => rfl)) pk_nil))) (pv 9) (nomark _))
        (pw_or (pt_cmpR (Oo.op_neO (E := E0) (nm T ("__eq__", 3) (by decide)) ln lo Ge be (hr.mono (by decide)) pass0) (pv 5) (pe_un (Oo.un_negO (E := E0) (nm T ("__neg__", 5) (by decide)) (r_neg T) (hr.mono (by decide)) passL) (pv 9)) (nomark _))
        (pw_or1 (pt_cmpR op_ne (pe_callTy (Ow.call_boolO (E := E0) (nm T ("__bool__", 4) (by decide)).at_ (nm T ("__bool__", 4) (by decide)).fn Gb (hr.mono (by decide)) bb pass0) (by rfl) (T.fr "bool" (by decide)) boot_T (pa_cons (pv 4) pa_nil))
          (pe_cmpR (op_neD hu) (pe_ix ix_list (pv 1) pe_int (fun _ _ => rfl)) (pe_ix ix_list (pv 1) (pe_un un_neg pe_int) (fun _ _ => rfl)) (nomark _)) (nomark _))))))) (pss_one (ps_ret pe_bl)) pss_nil)
    (pss_cons (ps_if (PW.pt (pw_and (pt_cmpR op_gt (pe_callB call_len_seq (by rfl) (T.fr "len" (by decide)) PySem.boot_len (pa_cons (pv 3) pa_nil)) pe_int (nomark _))
        (pw_and1 (pt_cmpR (Oo.op_neO (E := E0) (nm T ("__eq__", 3) (by decide)) ln lo Ge be (hr.mono (by decide)) pass0)
          (pe_op (Oo.op_add (E := E0) (opc_add T) (r_add T) (hr.mono (by decide)) passL) (pe_op (Oo.op_add (E := E0) (opc_add T) (r_add T) (hr.mono (by decide)) passL) (pe_ix ix_list (pv 3) pe_int (fun _ _ => rfl)) (pe_ix ix_list (pv 3) pe_int (fun _ _ => rfl))) (pe_ix ix_list (pv 3) pe_int (fun _ _ => rfl)))
          (pe_op (Oo.op_add (E := E0) (opc_add T) (r_add T) (hr.mono (by decide)) passL) (pe_ix ix_list (pv 3) pe_int (fun _ _ => rfl)) (pe_op (Oo.op_add (E := E0) (opc_add T) (r_add T) (hr.mono (by decide)) passL) (pe_ix ix_list (pv 3) pe_int (fun _ _ => rfl)) (pe_ix ix_list (pv 3) pe_int (fun _ _ => rfl)))) (nomark _))))) (pss_one (ps_ret pe_bl)) pss_nil)
    (pss_one (ps_ret (pe_cmpR (Oo.op_cmpO (E := E0) (op := .Eq) (fun _ _ => rfl) (nm T ("__eq__", 3) (by decide)) (r_noEq T) (hr.mono (by decide)) pass0)
      (pe_op (Oo.op_add (E := E0) (opc_add T) (r_add T) (hr.mono (by decide)) passL) (pv 4) (pe_un (Oo.un_negO (E := E0) (nm T ("__neg__", 5) (by decide)) (r_neg T) (hr.mono (by decide)) passL) (pv 4)))
      (pe_make (E := E0) mn Gn (hr.mono (by decide)) (by rfl) gn bn .nil passL (pa_cons (Oo.pe_new0 (E := E0) T.mko (ok_li T) (hr.mono (by decide)) (by rfl) T.go passL) (pa_cons (Oo.pe_new0 (E := E0) T.mko (ok_li T) (hr.mono (by decide)) (by rfl) T.go passL) pa_nil))) (nomark _))))))))))))), ?_⟩
  rfl
def spRw (K : PySem.W.Frag) : Sp := fun vs H Q _ => ∃ (p a : Addr) (cs : List Int) (b g : Int), vs = [.ref p] ∧ Pen H p a cs b g ∧ b ≤ 800 ∧ ∀ (b' g' : Int) (H' : Hp), b' ≤ b + 55 → Pen H' p a cs b' g' → Same2 H H' p → Q (.bl true) H'
theorem read_row {P : Program} {w : World} {mg : Str → Option Value} {base : Heap} (T : KF P w K mg base) {H : Hp} {Q : VK} {E : XK} {vs : List V} (h : spRw K vs H Q E) : tRw K { nx := fun _ H' => Q .non H', rt := Q } (L2.start scRw_N vs) H := by
  obtain ⟨p, a, cs, b, g, rfl, N, hb, k⟩ := h
  have e : L2.start scRw_N [.ref p] = [some (.ref p), none, none, none, none, none, none, none, none, none, none, none, none, none] := rfl
  rw [e]
  refine row1 N hb fun R ls rows b' g' H1 hb' N1 s1 hR r r6 => ?_
  refine row2 T hR r r6 fun S ps H2 s2 hS rl => ?_
  have r2 := rows_same r s2
  refine row3 T hS rl r6 fun M ns H3 s3 hM nn => ?_
  have r3 := rows_same r2 s3
  refine row4 T hM nn r6 fun t bk H4 s4 ht hbk => ?_
  have r4 := rows_same r3 s4
  have nn4 := notes_same nn s4
  refine row5 T (s4 _ _ hM) nn4 r6 ht hbk fun t bk a6 H5 s5 ht hbk => ?_
  have s25 := s2.trans (s3.trans (s4.trans s5))
  have hR5 := s25 _ _ hR
  refine row6 hR5 (rows_same r4 s5) r6 fun gl ll H6 s6 hg hl => ?_
  have f0 := r6.2.2 _ (row_mem (rows := rows) (j := 0) (by have := r6.1; omega))
  have fl := r6.2.2 _ (row_mem (rows := rows) (j := rows.length - 1) (by have := r6.1; omega))
  refine row7 hg hl f0 fl fun d H7 s7 hd => ?_
  have s57 := s6.trans s7
  have s37 := s3.trans (s4.trans (s5.trans s57))
  have s47 := s4.trans (s5.trans s57)
  refine row8 T (s57 _ _ hR5) (rows_same (rows_same r4 s5) s57) (s37 _ _ hS) (rels_same rl s37) r6 (IsNote.same ht s57) (IsNote.same hbk s57) hd fun H8 s8 => ?_
  refine row9 T (s8 _ _ (s47 _ _ hM)) (notes_same (notes_same nn s47) s8) r6 fun H9 s9 => ?_
  refine rowx T (IsNote.same ht (s57.trans (s8.trans s9))) f0 fl fun Hx sx => ?_
  have sA := s2.trans (s37.trans (s8.trans (s9.trans sx)))
  exact k b' g' Hx hb' (N1.same sA) (same2_of s1 sA)
theorem ok_row (T : KF P w K mg base) {f : Addr} {fd : FuncData} (F : FnP K "_law_row_right" sRw f fd) : FnOk P w K mg base CX0 13 f fd ["_law_pen_here"] (spRw K) := by
  refine F.ok scRw (fun vs H Q E h => ?_) (fun cdv A outer s H vs Q E hr h => ?_)
  · obtain ⟨p, a, cs, b, g, rfl, _⟩ := h
    rfl
  · obtain ⟨t, ht, rfl⟩ := code_row (E := E) T hr
    exact ⟨_, ht, read_row T h⟩
theorem c_row (T : KF P w K mg base) : Callee P w K mg base CX0 13 "_law_row_right" ["_law_pen_here"] (spRw K) := by
  obtain ⟨fd, F, g⟩ := T.tops ("_law_row_right", 47) (by decide)
  exact ⟨fd, ok_row T F, FunD.bindsN F fun _ _ _ _ _ _ us hl => match us, hl with | [_], _ => rfl, F.kp, g⟩
end
end K6
set_option Elab.async false
set_option linter.all false
set_option maxRecDepth 100000
set_option maxHeartbeats 1000000
/-! _law_sum_right: its readings, to what is heard. -/
namespace K6
open PySem PySem.Spec PyProof.Rows L2 RV EV He EF EI Hd LamX Kw
def tS1 : TS := tAsg (tLst tNil) (gName 1)
def tS2b (K : PySem.W.Frag) : TS := tSeq (tAsg (tCall spFxs [] E0 (tCons (tVar 0) (tCons (tC (V.int 4)) tNil))) (gName 3)) (tDrop (tBM K "list" rAppend (tVar 1) (tCons (tTup (tCons (tVar 3) (tCons
  (tLc (iList K (tCall spFxs [] E0 (tCons (tVar 0) (tCons (tC (V.int 3)) tNil)))) (gName 12) (tTest (tOp (rIn K true) (tVar 12) (tVar 3))) (tVar 12) [12]) tNil))) tNil)))
def tS2 (K : PySem.W.Frag) : TS := tFor (iRng1 (tCons (tC (V.int 2)) tNil)) (gName 2) (tS2b K)
def tS3 (K : PySem.W.Frag) : TS := tAsg (tVar 1) (gLst K 2 (gCons (gTup K 2 (gCons (gName 4) (gCons (gName 5) gNil))) (gCons (gTup K 2 (gCons (gName 6) (gCons (gName 7) gNil))) gNil)))
def tNoteOf (K : PySem.W.Frag) (i j : Nat) : TE := tMake (gNo K) (spNoI K) [] E0 (tCons (tCall (spLlot K) [] E0 (tCons (tVar i) tNil)) (tCons (tCall (spLlot K) [] E0 (tCons (tVar j) tNil)) tNil))
def tS4 (K : PySem.W.Frag) : TS := tAsg (tLc (iList K (tVar 1)) (gTup K 2 (gCons (gName 3) (gCons (gName 8) gNil))) tYes (tNoteOf K 3 8) [3, 8]) (gLst K 2 (gCons (gName 10) (gCons (gName 11) gNil)))
def tHd (K : PySem.W.Frag) (t : XK → TE) : TE := tLam (TL K) (TTh K) t
def tS5 (K : PySem.W.Frag) : TS := tAsg (tHd K fun E' => tOp (Oo.rOwn2 K (gNo K) (Oo.okAdd K (gNo K)) (spAdd K) E') (tVar 10) (tVar 11)) (gName 9)
/-- a pair of two lists of fixes, neither of them at P -/
def PartP (P : Addr) (H : Hp) (tp : Addr) (q : List Str × List Str) : Prop := ∃ ga la, H tp = some (.tup [.ref ga, .ref la]) ∧ ga ≠ P ∧ la ≠ P ∧ RowP H ga q.1 ∧ RowP H la q.2
theorem PartP.same {P tp : Addr} {H H' : Hp} {q : List Str × List Str} (h : PartP P H tp q) (s : Same H H') : PartP P H' tp q := let ⟨ga, la, e, n1, n2, r1, r2⟩ := h; ⟨ga, la, s _ _ e, n1, n2, s _ _ r1, s _ _ r2⟩
theorem PartP.upd {P tp : Addr} {H : Hp} {q : List Str × List Str} {xs : List V} {o : HO} (h : PartP P H tp q) (hP : H P = some (.lst xs)) : PartP P (upd H P o) tp q := by
  obtain ⟨ga, la, e, n1, n2, r1, r2⟩ := h
  refine ⟨ga, la, ?_, n1, n2, ?_, ?_⟩
  · rw [upd_ne (fun z => ?_)]
    · exact e
    · rw [z, hP] at e
      cases e
  · show L2.upd H P o ga = _
    rw [upd_ne n1]
    exact r1
  · show L2.upd H P o la = _
    rw [upd_ne n2]
    exact r2
theorem row_ne {H : Hp} {p a l : Addr} {cs : List Int} {b g : Int} {ns : List Str} (N : Pen H p a cs b g) (r : RowP H l ns) : l ≠ p := fun e => by
  have r : H l = some (.lst (ns.map V.str)) := r
  rw [e, N.pn] at r
  match ns, r with
  | [], r => cases r
  | _ :: _, r => cases r
theorem PartP.pen {P tp p a : Addr} {H H' : Hp} {q : List Str × List Str} {cs : List Int} {b g : Int} (h : PartP P H tp q) (N : Pen H p a cs b g) (s : Same2 H H' p) : PartP P H' tp q := by
  obtain ⟨ga, la, e, n1, n2, r1, r2⟩ := h
  refine ⟨ga, la, s _ _ (fun z => ?_) e, n1, n2, s _ _ (row_ne N r1) r1, s _ _ (row_ne N r2) r2⟩
  rw [z, N.pn] at e
  cases e
structure PartOk (q : List Str × List Str) : Prop where
  g : FxOk q.1
  l : FxOk q.2
  ap : apartB q.1 q.2 = true
theorem apart_comm {xs ys : List Str} (h : apartB xs ys = true) : apartB ys xs = true := by
  rw [apart_iff] at h ⊢
  exact fun x hx hy => h x hy hx
theorem tabs_up {K : PySem.W.Frag} {H H' : Hp} {p a : Addr} {cs : List Int} {b g : Int} (t : Tabs (TL K) H) (N : Pen H p a cs b g) (s : Same2 H H' p) : Tabs (TL K) H' := tabs_two t N.pn (fun _ z => nomatch z) (fun _ z => nomatch z) s
section
variable {P : Program} {w : World} {mg : Str → Option Value} {base : Heap} {K : PySem.W.Frag} {H : Hp} {D : Ends} {p a PP : Addr} {cs : List Int} {b g : Int} {a2 a3 a4 a5 a6 a7 a8 a9 a10 a11 : Option V}
/-- one turn of the drawing of the parts -/
theorem part_turn {tps : List Addr} {parts : List (List Str × List Str)} (N : Pen H p a cs b g) (hb : b ≤ 850) (hP : H PP = some (.lst (refs tps))) (hp : Each (PartP PP) H tps parts) (hl : tps.length ≤ 5) (nP : PP ≠ p) (naP : PP ≠ a)
    (k : ∀ a3 tp q b' g' H', PartOk q → b' ≤ b + 18 → Pen H' p a cs b' g' → (∀ c o, c ≠ p → c ≠ PP → H c = some o → H' c = some o) → H' PP = some (.lst (refs (tps ++ [tp]))) → Each (PartP PP) H' (tps ++ [tp]) (parts ++ [q]) →
      D.nx [some (.ref p), some (.ref PP), a2, a3, none, none, none, none, none, none, none, none, none] H') :
    tS2b K D [some (.ref p), some (.ref PP), a2, a3, none, none, none, none, none, none, none, none, none] H := by
  refine ⟨_, rfl, p, a, cs, b, g, 4, rfl, N, by omega, by decide, by decide, fun l ns b1 g1 H1 nl fx hb1 N1 s1 hl1 => ?_⟩
  have hP1 := s1 _ _ nP hP
  have lP : l ≠ PP := fun e => by
    rw [e, hP] at nl
    cases nl
  refine ⟨_, rfl, .inl ⟨rfl, _, SqL.of hP1⟩, _, rfl, ?_⟩
  refine ⟨_, rfl, p, a, cs, b1, g1, 3, rfl, N1, by omega, by decide, by decide, fun m ms b2 g2 H2 nm fm hb2 N2 s2 hm2 => ?_⟩
  have lp := row_ne N1 hl1
  have hl2 := s2 _ _ lp hl1
  refine ⟨m, rfl, ⟨_, SqL.of hm2⟩, fun D0 nD => ?_⟩
  have fz := fm.le
  have hP2 := s2 _ _ nP hP1
  refine lcl (K := K) (σ := [some (.ref p), some (.ref PP), a2, some (.ref l), none, none, none, none, none, none, none, none, none]) (i := 12) (tt := tTest (tOp (rIn K true) (tVar 12) (tVar 3))) (te := tVar 12) (p := fun x => decide (x ∈ ns) == false) (enc := V.str) (out := V.str) (ns := ms) (fun H' s => SqL.of (s _ _ hm2)) ⟨nD, by omega, fun _ => rfl, fun z _ H' F s e => ?_, fun z _ _ H' F s e => ⟨_, rfl, e _ fun _ _ e => e⟩, fun H3 s3 hD => ?_⟩
  · refine ⟨_, rfl, _, rfl, l, _, rfl, .inl (SqL.of (s _ _ hl2)), rfl, flat_strs ns, _, rfl, ?_⟩
    show F (!inV (.str z) (ns.map V.str)) H'
    rw [inV_str]
    have e2 : (!decide (z ∈ ns)) = (decide (z ∈ ns) == false) := by cases decide (z ∈ ns) <;> rfl
    rw [e2]
    exact e _ fun _ _ e => e
  · refine ⟨by show 2 ≤ sizeLine; decide, fun tp nt => ?_⟩
    have s4 := same_new (o := .tup [V.ref l, V.ref D0]) nt
    have hP3 := s3 _ _ hP2
    have hP4 := s4 _ _ hP3
    have N4 : Pen (upd H3 tp (.tup [V.ref l, V.ref D0])) p a cs b2 g2 := Pen.same N2 (s3.trans s4)
    refine ⟨PP, refs tps, .ref tp, rfl, rfl, hP4, by rw [List.length_map, sizeLine_eq]; omega, ?_⟩
    have dP : D0 ≠ PP := fun e => by
      rw [e, hP2] at nD
      cases nD
    have tP : tp ≠ PP := fun e => by
      rw [e, hP3] at nt
      cases nt
    refine k (some (.ref l)) tp (ns, sift ms ns false) b2 g2 _ ⟨fx, fm.sift, ?_⟩ (by omega) ⟨by rw [upd_ne nP.symm]; exact N4.pn, by rw [upd_ne naP.symm]; exact N4.ce, N4.b0, N4.g0, N4.ln⟩ (fun c o c1 c2 e => by rw [upd_ne c2]; exact s4 _ _ (s3 _ _ (s2 _ _ c1 (s1 _ _ c1 e)))) refs_snoc ?_
    · rw [apart_iff]
      exact fun x hx hy => (mem_sift.mp hy).2 hx
    · refine Each.snoc (Each.same (fun c q h => ?_) hp) ⟨l, D0, ?_, lP, dP, ?_, ?_⟩
      · exact PartP.upd (PartP.same (PartP.pen (PartP.pen h N s1) N1 s2) (s3.trans s4)) hP4
      · rw [upd_ne tP]
        exact upd_same
      · show upd _ PP _ l = _
        rw [upd_ne lP]
        exact s4 _ _ (s3 _ _ hl2)
      · show upd _ PP _ D0 = _
        rw [upd_ne dP]
        exact s4 _ _ hD
theorem sum12 (N : Pen H p a cs b g) (hb : b ≤ 800)
    (k : ∀ PP a2 a3 tps parts b' g' H', parts.length = 2 → (∀ q ∈ parts, PartOk q) → b' ≤ b + 36 → Pen H' p a cs b' g' → Same2 H H' p → H' PP = some (.lst (refs tps)) → Each (PartP PP) H' tps parts →
      D.nx [some (.ref p), some (.ref PP), a2, a3, none, none, none, none, none, none, none, none, none] H') :
    tSeq tS1 (tS2 K) D [some (.ref p), none, none, none, none, none, none, none, none, none, none, none, none] H := by
  refine ⟨by show 0 ≤ sizeLine; decide, fun PP nP => ?_⟩
  have nPp : PP ≠ p := (ne_of_none N.pn nP).symm
  have nPa : PP ≠ a := (ne_of_none N.ce nP).symm
  refine ⟨2, rfl, by decide, by decide, ?_⟩
  refine for_range (lo := 0) (n := 2) (g := gName 2) (tb := tS2b K) (D := D) (fun i σ' H' => ∃ a2 a3 tps parts b' g', σ' = [some (.ref p), some (.ref PP), a2, a3, none, none, none, none, none, none, none, none, none] ∧ parts.length = i ∧ (∀ q ∈ parts, PartOk q) ∧ b' ≤ b + 18 * i ∧ Pen H' p a cs b' g' ∧
      Same2 H H' p ∧ H' PP = some (.lst (refs tps)) ∧ Each (PartP PP) H' tps parts) ⟨none, none, [], [], b, g, rfl, rfl, (fun _ h => nomatch h), by omega, N.new nP, same2_new (fun _ _ _ e => e) nP, upd_same, trivial⟩ ?_ ?_
  · rintro i σ' H' hi ⟨a2, a3, tps, parts, b', g', rfl, hl, ok, hb', N', s', hP, hp⟩
    have hlen := hp.len
    refine part_turn N' (by omega) hP hp (by omega) nPp nPa fun a3 tp q b2 g2 H2 okq hb2 N2 s2 hP2 hp2 => ?_
    refine ⟨_, _, tps ++ [tp], parts ++ [q], b2, g2, rfl, by rw [List.length_append, hl]; rfl, fun x hx => ?_, by omega, N2, fun c o hc e => s2 c o hc (ne_of_none e nP) (s' c o hc e), hP2, hp2⟩
    rcases List.mem_append.mp hx with h | h
    · exact ok x h
    · rw [List.mem_singleton.mp h]
      exact okq
  · rintro σ' H' ⟨a2, a3, tps, parts, b', g', rfl, hl, ok, hb', N', s', hP, hp⟩
    exact k PP a2 a3 tps parts b' g' H' hl ok (by omega) N' s' hP hp
theorem sum3 {t0 t1 u d h l : Addr} (hP : H PP = some (.lst [.ref t0, .ref t1])) (h0 : H t0 = some (.tup [.ref u, .ref d])) (h1 : H t1 = some (.tup [.ref h, .ref l]))
    (k : D.nx [some (.ref p), some (.ref PP), a2, a3, some (.ref u), some (.ref d), some (.ref h), some (.ref l), none, none, none, none, none] H) :
    tS3 K D [some (.ref p), some (.ref PP), a2, a3, none, none, none, none, none, none, none, none, none] H :=
  ⟨_, rfl, PP, _, rfl, SqL.of hP, rfl, _, _, rfl, ⟨t0, _, rfl, SqT.of h0, rfl, _, _, rfl, _, _, rfl, rfl, _, _, rfl, ⟨t1, _, rfl, SqT.of h1, rfl, _, _, rfl, _, _, rfl, rfl, rfl, k⟩⟩⟩
/-- Note(_law_lot(x), _law_lot(y)) -/
theorem noteOf_read {σ : L2.St} {i j : Nat} {x y : Addr} {ga lo : List Str} {Q : VK} (hi : σ[i]? = some (some (.ref x))) (hj : σ[j]? = some (some (.ref y))) (hx : RowP H x ga) (hy : RowP H y lo) (fx : FxOk ga) (fy : FxOk lo) (ap : apartB ga lo = true)
    (k : ∀ d H', Same H H' → IsNote K H' d ga lo → Q (.ref d) H') : tNoteOf K i j σ H Q := by
  refine ⟨_, hi, .ref x, ga, rfl, .inl ⟨x, rfl, hx⟩, fx.le, fx.fix, fun H1 q dq tq s1 O => ?_⟩
  rw [fx.lined] at O
  refine ⟨_, hj, .ref y, lo, rfl, .inl ⟨y, rfl, s1 _ _ hy⟩, fy.le, fy.fix, fun H2 q2 dq2 tq2 s2 O2 => ?_⟩
  rw [fy.lined] at O2
  exact note_new (Q := Q) ⟨dq, tq, O.same s2⟩ ⟨dq2, tq2, O2⟩ ap fun z H3 s3 n => k z H3 (s1.trans (s2.trans s3)) n
theorem sum4 {t0 t1 u d h l : Addr} {U V' X Y : List Str} (hP : H PP = some (.lst [.ref t0, .ref t1])) (h0 : H t0 = some (.tup [.ref u, .ref d])) (h1 : H t1 = some (.tup [.ref h, .ref l])) (hu : RowP H u U) (hd : RowP H d V') (hh : RowP H h X) (hl : RowP H l Y) (o0 : PartOk (U, V')) (o1 : PartOk (X, Y))
    (k : ∀ n0 n1 H', Same H H' → IsNote K H' n0 U V' → IsNote K H' n1 X Y → D.nx [some (.ref p), some (.ref PP), a2, a3, some (.ref u), some (.ref d), some (.ref h), some (.ref l), none, none, some (.ref n0), some (.ref n1), none] H') :
    tS4 K D [some (.ref p), some (.ref PP), a2, a3, some (.ref u), some (.ref d), some (.ref h), some (.ref l), none, none, none, none, none] H := by
  refine ⟨_, rfl, PP, rfl, ⟨_, SqL.of hP⟩, fun D0 nD => ?_⟩
  refine lc_it (σ := [some (.ref p), some (.ref PP), a2, a3, some (.ref u), some (.ref d), some (.ref h), some (.ref l), none, none, none, none, none]) (vs := [3, 8]) (walk_list (K := K) (a := PP) (xs := [.ref t0, .ref t1]))
    (fun n H' => Same H H' ∧ ∃ ns, ns.length = n ∧ H' D0 = some (.lst (refs ns)) ∧ NotesAt K H' ns ([(U, V'), (X, Y)].take n)) ⟨same_keep (fun _ _ e => e) nD, [], rfl, upd_same, trivial⟩ (fun n H' _ q => SqL.of (q.1 _ _ hP)) ?_ ?_
  · rintro n x H4 H5 hn ⟨s4, ns, hl', hD, hN⟩ ⟨rfl, hx⟩
    have hn : n < 2 := hn
    have step : ∀ {q : List Str × List Str} {y : Addr} {H6 : Hp}, Same H5 H6 → IsNote K H6 y q.1 q.2 → [(U, V'), (X, Y)].take (n + 1) = [(U, V'), (X, Y)].take n ++ [q] → ∃ acc, H6 D0 = some (.lst acc) ∧ acc.length < sizeLine ∧ Same H (upd H6 D0 (.lst (acc ++ [V.ref y]))) ∧ ∃ ns, ns.length = n + 1 ∧ (upd H6 D0 (.lst (acc ++ [V.ref y]))) D0 = some (.lst (refs ns)) ∧ NotesAt K (upd H6 D0 (.lst (acc ++ [V.ref y]))) ns ([(U, V'), (X, Y)].take (n + 1)) := by
      intro q y H6 s6 nq more
      have hD6 := s6 _ _ hD
      have sN := sameN_upd (o := .lst (refs ns ++ [V.ref y])) hD6
      refine ⟨_, hD6, by rw [List.length_map, hl', sizeLine_eq]; omega, same_keep (s4.trans s6) nD, ns ++ [y], by rw [List.length_append, hl']; rfl, refs_snoc, ?_⟩
      rw [more]
      exact Each.snoc (Each.same (fun _ _ h => IsNote.sameN h sN) (notes_same hN s6)) (IsNote.sameN nq sN)
    obtain rfl | rfl : n = 0 ∨ n = 1 := by omega
    · cases hx
      refine ⟨t0, _, rfl, SqT.of (s4 _ _ h0), rfl, _, _, rfl, _, _, rfl, rfl, rfl, yes_go ?_⟩
      exact noteOf_read rfl rfl (s4 _ _ hu) (s4 _ _ hd) o0.g o0.l o0.ap fun y H6 s6 n6 => step (q := (U, V')) s6 n6 rfl
    · cases hx
      refine ⟨t1, _, rfl, SqT.of (s4 _ _ h1), rfl, _, _, rfl, _, _, rfl, rfl, rfl, yes_go ?_⟩
      exact noteOf_read rfl rfl (s4 _ _ hh) (s4 _ _ hl) o1.g o1.l o1.ap fun y H6 s6 n6 => step (q := (X, Y)) s6 n6 rfl
  · rintro H4 ⟨s4, ns, hl', hD, hN⟩
    match ns, hl', hN, hD with
    | [n0, n1], _, hN, hD => exact ⟨D0, _, rfl, SqL.of hD, rfl, _, _, rfl, _, _, rfl, rfl, k n0 n1 H4 s4 hN.1 hN.2.1⟩
end
end K6
set_option Elab.async false
set_option linter.all false
set_option maxRecDepth 100000
set_option maxHeartbeats 1000000
/-! _law_sum_right: its readings, from what is heard on. -/
namespace K6
open PySem PySem.Spec PyProof.Rows L2 RV EV He EF EI Hd LamX Kw
/-- two notes that are the same -/
def EqNt (K : PySem.W.Frag) (a b : Addr) (H : Hp) : Prop := ∃ ga lo, IsNote K H a ga lo ∧ IsNote K H b ga lo
theorem mon_eqn {K : PySem.W.Frag} : Mon (DIns (gNo K) (EqNt K)) := mon_ins fun _ _ _ _ e ⟨ga, lo, h1, h2⟩ => ⟨ga, lo, IsNote.same h1 e, IsNote.same h2 e⟩
abbrev tInT (K : PySem.W.Frag) (b : Bool) (i : Nat) : TT := tTest (tOp (rIn K b) (tVar 12) (tVar i))
def tLcH (K : PySem.W.Frag) (i j : Nat) : TE := tLc (iList K (tVar i)) (gName 12) (tInT K false j) (tVar 12) [12]
def tUnl (K : PySem.W.Frag) : TS := tRet (tOp (rEqD K) (tVar 9) (tTup (tCons (tC (V.str "unlike")) (tCons (tC (V.str "fix")) tNil))))
def tS6 (K : PySem.W.Frag) : TS := tIfS (tOr (tTest (tOp (rNeD K) (tLcH K 4 6) (tLst tNil))) (tTest (tOp (rNeD K) (tLcH K 5 7) (tLst tNil)))) (tUnl K) tNext
abbrev tT4 (K : PySem.W.Frag) (a b c d : Nat) : TT := tOr (tAnd (tInT K false a) (tInT K true b)) (tAnd (tInT K false c) (tInT K true d))
def tLc9 (K : PySem.W.Frag) (a b c d : Nat) : TE := tLc (iStr (tC (V.str "abcdefghi"))) (gName 12) (tT4 K a b c d) (tVar 12) [12]
def tS7 (K : PySem.W.Frag) : TS := tAsg (tLc9 K 4 7 6 5) (gName 3)
def tS8 (K : PySem.W.Frag) : TS := tAsg (tLc9 K 5 6 7 4) (gName 8)
def tFx8 (K : PySem.W.Frag) : TS := tRet (tOp (rEqD K) (tVar 9) (tTup (tCons (tC (V.str "fixes")) (tCons (tC (V.int 8)) tNil))))
abbrev tLong (K : PySem.W.Frag) (i : Nat) : TT := tTest (tOp rGtI (tCB (rLenS K) (tCons (tVar i) tNil)) (tC (V.int 8)))
def tS9 (K : PySem.W.Frag) : TS := tIfS (tOr (tLong K 3) (tLong K 8)) (tFx8 K) tNext
def tSx (K : PySem.W.Frag) : TS := tRet (tOp (rEqG (DList (DIns (gNo K) (EqNt K)))) (tVar 9) (tLst (tCons (tNoteOf K 3 8) tNil)))
def tSm (K : PySem.W.Frag) : TS := tSeq tS1 (tSeq (tS2 K) (tSeq (tS3 K) (tSeq (tS4 K) (tSeq (tS5 K) (tSeq (tS6 K) (tSeq (tS7 K) (tSeq (tS8 K) (tSeq (tS9 K) (tSx K)))))))))
/-! no Python -/
theorem filt_empty {xs ys : List Str} : decide (xs.filter (fun x => decide (x ∈ ys)) = []) = apartB xs ys := by
  cases h : apartB xs ys with
  | true =>
    rw [apart_iff] at h
    refine decide_eq_true (List.filter_eq_nil_iff.mpr fun x hx hd => h x hx (of_decide_eq_true hd))
  | false =>
    refine decide_eq_false fun z => ?_
    have : apartB xs ys = true := apart_iff.mpr fun x hx hy => (List.filter_eq_nil_iff.mp z x hx) (decide_eq_true hy)
    rw [h] at this
    cases this
theorem gain_eq {U W X Y : List Str} (hU : ∀ x ∈ U, x ∈ lettersL) (hX : ∀ x ∈ X, x ∈ lettersL) (a1 : apartB U W = true) (a2 : apartB X Y = true) :
    lettersL.filter (fun x => (decide (x ∈ U) && !decide (x ∈ Y)) || (decide (x ∈ X) && !decide (x ∈ W))) = lined (without (U ++ X) (W ++ Y)) := by
  rw [apart_iff] at a1 a2
  refine asc_uniq (List.Pairwise.filter _ fxl_asc) (asc_lined _) fun x => ?_
  rw [List.mem_filter, mem_lined, mem_without, List.mem_append, List.mem_append]
  have u1 := hU x
  have x1 := hX x
  have c1 := a1 x
  have c2 := a2 x
  by_cases h1 : x ∈ U <;> by_cases h2 : x ∈ W <;> by_cases h3 : x ∈ X <;> by_cases h4 : x ∈ Y <;> simp_all
/-- what is heard of the sum of two notes -/
def HeardAdd (K : PySem.W.Frag) (H : Hp) (r : Addr) (ga lo gb lb : List Str) : Prop :=
  ((apartB ga gb = false ∨ apartB lo lb = false) ∧ H r = some (.tup [.str "unlike", .str "fix"])) ∨
  (apartB ga gb = true ∧ apartB lo lb = true ∧ (8 < (lined (without (ga ++ gb) (lo ++ lb))).length ∨ 8 < (lined (without (lo ++ lb) (ga ++ gb))).length) ∧ H r = some (.tup [.str "fixes", .int 8])) ∨
  (apartB ga gb = true ∧ apartB lo lb = true ∧ (lined (without (ga ++ gb) (lo ++ lb))).length ≤ 8 ∧ (lined (without (lo ++ lb) (ga ++ gb))).length ≤ 8 ∧ ∃ x, H r = some (.lst [.ref x]) ∧ IsNote K H x (lined (without (ga ++ gb) (lo ++ lb))) (lined (without (lo ++ lb) (ga ++ gb))))
theorem HeardAdd.same {K : PySem.W.Frag} {H H' : Hp} {r : Addr} {ga lo gb lb : List Str} (h : HeardAdd K H r ga lo gb lb) (s : Same H H') : HeardAdd K H' r ga lo gb lb := by
  rcases h with ⟨h, e⟩ | ⟨h1, h2, h3, e⟩ | ⟨h1, h2, h3, h4, x, e, n⟩
  · exact .inl ⟨h, s _ _ e⟩
  · exact .inr (.inl ⟨h1, h2, h3, s _ _ e⟩)
  · exact .inr (.inr ⟨h1, h2, h3, h4, x, s _ _ e, IsNote.same n s⟩)
section
variable {P : Program} {w : World} {mg : Str → Option Value} {base : Heap} {K : PySem.W.Frag} {H : Hp} {D : Ends} {Q : VK} {p q : Addr} {ga lo gb lb : List Str}
theorem heard_add (T : KF P w K mg base) (hp : IsNote K H p ga lo) (hq : IsNote K H q gb lb) (k : ∀ r H', Same H H' → HeardAdd K H' r ga lo gb lb → Q (.ref r) H') :
    Oo.rOwn2 K (gNo K) (Oo.okAdd K (gNo K)) (spAdd K) (ErrH K Q) (.ref p) (.ref q) H (fun v H1 => [v].length ≤ sizeLine ∧ ∀ l, H1 l = none → Q (.ref l) (upd H1 l (.lst [v]))) := by
  refine add_read T hp hq (.inl rfl) ⟨fun h H1 s1 d nd => ?_, fun h1 h2 h3 h4 x H1 s1 n => ⟨by show 1 ≤ sizeLine; decide, fun l nl => ?_⟩, fun h1 h2 h3 H1 s1 d nd => ?_⟩
  · refine .inl ⟨d, .str "fix", rfl, rfl, upd_same, fun r H2 s2 hr => k r H2 (s1.trans ((same_new nd).trans s2)) (.inl ⟨h, hr⟩)⟩
  · have s2 := same_new (o := .lst [V.ref x]) nl
    exact k l _ (s1.trans s2) (.inr (.inr ⟨h1, h2, h3, h4, x, upd_same, IsNote.same n s2⟩))
  · refine .inr (.inl ⟨d, .str "fixes", .int 8, rfl, rfl, upd_same, fun r H2 s2 hr => k r H2 (s1.trans ((same_new nd).trans s2)) (.inr (.inl ⟨h1, h2, h3, hr⟩))⟩)
theorem IsNote.extN {K : PySem.W.Frag} {H H' : Hp} {p : Addr} {ga lo : List Str} (o : IsNote K H p ga lo) (s : ExtN H H') : IsNote K H' p ga lo := by
  obtain ⟨dx, g, l, N⟩ := o
  obtain ⟨dg, tg, G⟩ := N.g
  obtain ⟨dl, tl, L⟩ := N.l
  exact ⟨dx, g, l, s _ _ N.ob (fun _ z => nomatch z), ⟨dg, tg, s _ _ G.ob (fun _ z => nomatch z), s _ _ G.ps (fun _ z => nomatch z), G.asc, G.fx, G.le⟩, ⟨dl, tl, s _ _ L.ob (fun _ z => nomatch z), s _ _ L.ps (fun _ z => nomatch z), L.asc, L.fx, L.le⟩⟩
theorem sum5 (T : KF P w K mg base) {v0 v1 a2 a3 a4 a5 a6 a7 a8 a9 : Option V} (hT : Tabs (TL K) H) (hp : IsNote K H p ga lo) (hq : IsNote K H q gb lb)
    (k : ∀ r H', ExtN H H' → Tabs (TL K) H' → HeardAdd K H' r ga lo gb lb → D.nx [v0, v1, a2, a3, a4, a5, a6, a7, a8, some (.ref r), some (.ref p), some (.ref q), none] H') :
    tS5 K D [v0, v1, a2, a3, a4, a5, a6, a7, a8, a9, some (.ref p), some (.ref q), none] H := by
  refine ⟨hT, fun H1 e1 T1 => ?_⟩
  refine ⟨_, rfl, _, rfl, heard_add T (IsNote.extN hp e1) (IsNote.extN hq e1) fun r H2 s2 h => k r H2 (e1.trans (Same.extN s2)) (T1.ext s2) h⟩
theorem inT_read {σ : L2.St} {i : Nat} {b : Bool} {z : Str} {l : Addr} {xs : List Str} {F : Bool → Hp → Prop} (hz : σ[12]? = some (some (.str z))) (hi : σ[i]? = some (some (.ref l))) (hl : RowP H l xs) (k : F (if b then !decide (z ∈ xs) else decide (z ∈ xs)) H) : tInT K b i σ H F := by
  refine ⟨_, hz, _, hi, l, _, rfl, .inl (SqL.of hl), rfl, flat_strs xs, _, rfl, ?_⟩
  rw [inV_str]
  exact k
theorem and_read {σ : L2.St} {tA tB : TT} {a b : Bool} {G : Bool → Hp → Prop} (hA : ∀ F : Bool → Hp → Prop, F a H → tA σ H F) (hB : ∀ F : Bool → Hp → Prop, F b H → tB σ H F) (k : G (a && b) H) : tAnd tA tB σ H G := by
  refine hA _ ?_
  cases a with
  | true => exact if_posB rfl (hB _ k)
  | false => exact if_negB rfl k
theorem or_read {σ : L2.St} {tA tB : TT} {a b : Bool} {G : Bool → Hp → Prop} (hA : ∀ F : Bool → Hp → Prop, F a H → tA σ H F) (hB : ∀ F : Bool → Hp → Prop, F b H → tB σ H F) (k : G (a || b) H) : tOr tA tB σ H G := by
  refine hA _ ?_
  cases a with
  | true => exact if_posB rfl k
  | false => exact if_negB rfl (hB _ k)
theorem t4_read {σ : L2.St} {i j m n : Nat} {z : Str} {l1 l2 l3 l4 : Addr} {U Y X W : List Str} {F : Bool → Hp → Prop} (hz : σ[12]? = some (some (.str z))) (hi : σ[i]? = some (some (.ref l1))) (hj : σ[j]? = some (some (.ref l2))) (hm : σ[m]? = some (some (.ref l3))) (hn : σ[n]? = some (some (.ref l4)))
    (r1 : RowP H l1 U) (r2 : RowP H l2 Y) (r3 : RowP H l3 X) (r4 : RowP H l4 W) (k : F ((decide (z ∈ U) && !decide (z ∈ Y)) || (decide (z ∈ X) && !decide (z ∈ W))) H) : tT4 K i j m n σ H F :=
  or_read (fun G g => and_read (fun G g => inT_read hz hi r1 g) (fun G g => inT_read hz hj r2 g) g) (fun G g => and_read (fun G g => inT_read hz hm r3 g) (fun G g => inT_read hz hn r4 g) g) k
theorem lcH_read {σ : L2.St} {i j : Nat} {l1 l2 : Addr} {U X : List Str} (hi : σ[i]? = some (some (.ref l1))) (hj : ∀ z : Str, ((wipe σ [12]).set 12 (some (V.str z)))[j]? = some (some (.ref l2))) (r1 : RowP H l1 U) (r2 : RowP H l2 X) (lu : U.length ≤ 1000)
    (hz : ∀ z : Str, ((wipe σ [12]).set 12 (some (V.str z)))[12]? = some (some (.str z))) (hw : ∀ v, wipe ((wipe σ [12]).set 12 (some v)) [12] = wipe σ [12]) (k : ∀ L H', Same H H' → RowP H' L (U.filter fun x => decide (x ∈ X)) → Q (.ref L) H') : tLcH K i j σ H Q := by
  refine ⟨_, hi, l1, rfl, ⟨_, SqL.of r1⟩, fun D0 nD => ?_⟩
  exact lcl (K := K) (σ := σ) (i := 12) (tt := tInT K false j) (te := tVar 12) (p := fun x => decide (x ∈ X)) (enc := V.str) (out := V.str) (ns := U) (fun H' s => SqL.of (s _ _ r1)) ⟨nD, lu, hw, fun z _ H' F s e => inT_read (hz z) (hj z) (s _ _ r2) (e _ fun _ _ e => e), fun z _ _ H' F s e => ⟨_, hz z, e _ fun _ _ e => e⟩, fun H3 s3 hD => k D0 H3 s3 hD⟩
theorem lc9_read {σ : L2.St} {i j m n : Nat} {l1 l2 l3 l4 : Addr} {U Y X W : List Str} (hi : ∀ z : Str, ((wipe σ [12]).set 12 (some (V.str z)))[i]? = some (some (.ref l1))) (hj : ∀ z : Str, ((wipe σ [12]).set 12 (some (V.str z)))[j]? = some (some (.ref l2)))
    (hm : ∀ z : Str, ((wipe σ [12]).set 12 (some (V.str z)))[m]? = some (some (.ref l3))) (hn : ∀ z : Str, ((wipe σ [12]).set 12 (some (V.str z)))[n]? = some (some (.ref l4))) (r1 : RowP H l1 U) (r2 : RowP H l2 Y) (r3 : RowP H l3 X) (r4 : RowP H l4 W)
    (hz : ∀ z : Str, ((wipe σ [12]).set 12 (some (V.str z)))[12]? = some (some (.str z))) (hw : ∀ v, wipe ((wipe σ [12]).set 12 (some v)) [12] = wipe σ [12])
    (k : ∀ L H', Same H H' → RowP H' L (lettersL.filter fun z => (decide (z ∈ U) && !decide (z ∈ Y)) || (decide (z ∈ X) && !decide (z ∈ W))) → Q (.ref L) H') : tLc9 K i j m n σ H Q := by
  refine ⟨"abcdefghi", rfl, fun D0 nD => ?_⟩
  have w9 : Walk (Its "abcdefghi") lettersL.length (fun _ => True) (fun i H v H' => H' = H ∧ ∃ c, (("abcdefghi" : Str).cps)[i]? = some c ∧ v = .str ⟨#[c]⟩) := by
    have e9 : ("abcdefghi" : Str).cps.size = 9 := by decide +kernel
    have w := walk_str (z := "abcdefghi")
    rw [e9] at w
    rw [fxl_len]
    exact w
  refine lc_gen (enc := V.str) (out := V.str) (p := fun z => (decide (z ∈ U) && !decide (z ∈ Y)) || (decide (z ∈ X) && !decide (z ∈ W))) (ns := lettersL) (i := 12) (tt := tT4 K i j m n) (te := tVar 12) nD w9 (by rw [fxl_len]; decide) ?_ (fun _ _ => trivial) hw (fun z _ H' F s e => t4_read (hz z) (hi z) (hj z) (hm z) (hn z) (s _ _ r1) (s _ _ r2) (s _ _ r3) (s _ _ r4) (e _ fun _ _ e => e)) (fun z _ _ H' F s e => ⟨_, hz z, e _ fun _ _ e => e⟩) fun H3 s3 hD => k D0 H3 s3 hD
  rintro n x H4 H5 ⟨rfl, c, hc, rfl⟩
  refine ⟨rfl, one c, ?_, rfl⟩
  unfold lettersL
  rw [List.getElem?_map, Array.getElem?_toList, hc]
  rfl
/-- == of what is heard and a written pair -/
theorem pair_read {r q : Addr} {x y : V} {d e : PyData} (hr : H r = some (.tup [x, y])) (hx : Dp K H x d) (hy : Dp K H y e) (hx' : ∀ H', Same H H' → Dp K H' x d) (hy' : ∀ H', Same H H' → Dp K H' y e) (sh : SeqAt.shaped (.tuple [d, e]) = true) (ev : PyData.eqv (.tuple [d, e]) (.tuple [d, e]) = true) (nq : H q = none) (k : Q (.bl true) (upd H q (.tup [x, y]))) :
    rEqD K (.ref r) (.ref q) (upd H q (.tup [x, y])) Q := by
  have s := same_new (o := .tup [x, y]) nq
  refine ⟨.tuple [d, e], .tuple [d, e], .tup (SqT.of (s _ _ hr)) (.cons (hx' _ s) (.cons (hy' _ s) .nil)), .tup (SqT.of upd_same) (.cons (hx' _ s) (.cons (hy' _ s) .nil)), sh, sh, ?_⟩
  rw [ev]
  exact k
end
end K6
set_option Elab.async false
set_option linter.all false
set_option maxRecDepth 100000
set_option maxHeartbeats 1000000
/-! _law_sum_right: its readings, to the end. -/
namespace K6
open PySem PySem.Spec PyProof.Rows L2 RV EV He EF EI Hd LamX Kw
section
variable {P : Program} {w : World} {mg : Str → Option Value} {base : Heap} {K : PySem.W.Frag} {H : Hp} {D : Ends} {u d h l r n0 n1 gl ll : Addr} {U W X Y G L : List Str} {v0 v1 a2 a3 a8 a10 a11 : Option V}
theorem none_list {q : Addr} {xs : List Str} {L : Addr} {Q : VK} (hL : RowP H L xs) (fx : ∀ x ∈ xs, isFixB x = true) (nq : H q = none) (k : Q (.bl (!decide (xs = []))) (upd H q (.lst []))) : rNeD K (.ref L) (.ref q) (upd H q (.lst [])) Q :=
  neL (ys := []) (SqL.of (same_new nq _ _ hL)) (SqL.of upd_same) (fun x hx => fix_ok (fx x hx)) (fun _ h => nomatch h) k
theorem neH_read {σ : L2.St} {i j : Nat} {l1 l2 : Addr} {U X : List Str} {F : Bool → Hp → Prop} (hi : σ[i]? = some (some (.ref l1))) (hj : ∀ z : Str, ((wipe σ [12]).set 12 (some (V.str z)))[j]? = some (some (.ref l2))) (r1 : RowP H l1 U) (r2 : RowP H l2 X) (fu : FxOk U)
    (hz : ∀ z : Str, ((wipe σ [12]).set 12 (some (V.str z)))[12]? = some (some (.str z))) (hw : ∀ v, wipe ((wipe σ [12]).set 12 (some v)) [12] = wipe σ [12]) (k : ∀ H', Same H H' → F (!apartB U X) H') : tTest (tOp (rNeD K) (tLcH K i j) (tLst tNil)) σ H F := by
  have lu := fu.le
  show tLcH K i j σ H (fun x H1 => tLst tNil σ H1 fun y H2 => rNeD K x y H2 fun v H3 => ∃ kk, v = .bl kk ∧ F kk H3)
  refine lcH_read hi hj r1 r2 (by omega) hz hw fun L1 H1 s1 hL1 => ?_
  refine ⟨by show 0 ≤ sizeLine; decide, fun q1 nq1 => none_list hL1 (fun x hx => fu.fix x (List.mem_filter.mp hx).1) nq1 ⟨_, rfl, ?_⟩⟩
  rw [filt_empty]
  exact k _ (s1.trans (same_new nq1))
theorem unl_read (hr : H r = some (.tup [.str "unlike", .str "fix"])) (kr : ∀ H', Same H H' → D.rt (.bl true) H') : tUnl K D [v0, v1, a2, a3, some (.ref u), some (.ref d), some (.ref h), some (.ref l), a8, some (.ref r), a10, a11, none] H :=
  ⟨_, rfl, by show 2 ≤ sizeLine; decide, fun q nq => pair_read hr (.str _) (.str _) (fun _ _ => .str _) (fun _ _ => .str _) (by decide +kernel) (by decide +kernel) nq (kr _ (same_new nq))⟩
theorem sum6 (hu : RowP H u U) (hd : RowP H d W) (hh : RowP H h X) (hl : RowP H l Y) (fu : FxOk U) (fd : FxOk W) (hr : HeardAdd K H r U W X Y) (kr : ∀ H', Same H H' → D.rt (.bl true) H')
    (k : apartB U X = true → apartB W Y = true → ∀ H', Same H H' → D.nx [v0, v1, a2, a3, some (.ref u), some (.ref d), some (.ref h), some (.ref l), a8, some (.ref r), a10, a11, none] H') :
    tS6 K D [v0, v1, a2, a3, some (.ref u), some (.ref d), some (.ref h), some (.ref l), a8, some (.ref r), a10, a11, none] H := by
  have lu := fu.le
  have ld := fd.le
  have told : apartB U X = false ∨ apartB W Y = false → H r = some (.tup [.str "unlike", .str "fix"]) := fun z => by
    rcases hr with ⟨_, e⟩ | ⟨h1, h2, _⟩ | ⟨h1, h2, _⟩
    · exact e
    · rcases z with z | z
      · rw [h1] at z; cases z
      · rw [h2] at z; cases z
    · rcases z with z | z
      · rw [h1] at z; cases z
      · rw [h2] at z; cases z
  show tTest (tOp (rNeD K) (tLcH K 4 6) (tLst tNil)) [v0, v1, a2, a3, some (.ref u), some (.ref d), some (.ref h), some (.ref l), a8, some (.ref r), a10, a11, none] H (fun c H1 => if c = true then (if true = true then tUnl K D [v0, v1, a2, a3, some (.ref u), some (.ref d), some (.ref h), some (.ref l), a8, some (.ref r), a10, a11, none] H1 else tNext D [v0, v1, a2, a3, some (.ref u), some (.ref d), some (.ref h), some (.ref l), a8, some (.ref r), a10, a11, none] H1) else tTest (tOp (rNeD K) (tLcH K 5 7) (tLst tNil)) [v0, v1, a2, a3, some (.ref u), some (.ref d), some (.ref h), some (.ref l), a8, some (.ref r), a10, a11, none] H1 fun b H2 => if b = true then tUnl K D [v0, v1, a2, a3, some (.ref u), some (.ref d), some (.ref h), some (.ref l), a8, some (.ref r), a10, a11, none] H2 else tNext D [v0, v1, a2, a3, some (.ref u), some (.ref d), some (.ref h), some (.ref l), a8, some (.ref r), a10, a11, none] H2)
  refine neH_read (σ := [v0, v1, a2, a3, some (.ref u), some (.ref d), some (.ref h), some (.ref l), a8, some (.ref r), a10, a11, none]) rfl (fun _ => rfl) hu hh fu (fun _ => rfl) (fun _ => rfl) fun H1 s1 => ?_
  cases e1 : apartB U X with
  | false => exact if_posB rfl (if_posB rfl (unl_read (s1 _ _ (told (.inl e1))) fun H' s => kr H' (s1.trans s)))
  | true =>
    refine if_negB rfl ?_
    refine neH_read (σ := [v0, v1, a2, a3, some (.ref u), some (.ref d), some (.ref h), some (.ref l), a8, some (.ref r), a10, a11, none]) rfl (fun _ => rfl) (s1 _ _ hd) (s1 _ _ hl) fd (fun _ => rfl) (fun _ => rfl) fun H2 s2 => ?_
    have s12 := s1.trans s2
    cases e2 : apartB W Y with
    | false => exact if_posB rfl (unl_read (s12 _ _ (told (.inr e2))) fun H' s => kr H' (s12.trans s))
    | true => exact if_negB rfl (k e1 e2 _ s12)
theorem sum78 (hu : RowP H u U) (hd : RowP H d W) (hh : RowP H h X) (hl : RowP H l Y)
    (k : ∀ gl ll H', Same H H' → RowP H' gl (lettersL.filter fun z => (decide (z ∈ U) && !decide (z ∈ Y)) || (decide (z ∈ X) && !decide (z ∈ W))) → RowP H' ll (lettersL.filter fun z => (decide (z ∈ W) && !decide (z ∈ X)) || (decide (z ∈ Y) && !decide (z ∈ U))) →
      D.nx [v0, v1, a2, some (.ref gl), some (.ref u), some (.ref d), some (.ref h), some (.ref l), some (.ref ll), some (.ref r), a10, a11, none] H') :
    tSeq (tS7 K) (tS8 K) D [v0, v1, a2, a3, some (.ref u), some (.ref d), some (.ref h), some (.ref l), a8, some (.ref r), a10, a11, none] H := by
  show tLc9 K 4 7 6 5 [v0, v1, a2, a3, some (.ref u), some (.ref d), some (.ref h), some (.ref l), a8, some (.ref r), a10, a11, none] H (fun x H1 => tLc9 K 5 6 7 4 (List.set [v0, v1, a2, a3, some (.ref u), some (.ref d), some (.ref h), some (.ref l), a8, some (.ref r), a10, a11, none] 3 (some x)) H1 fun y H2 => D.nx ((List.set [v0, v1, a2, a3, some (.ref u), some (.ref d), some (.ref h), some (.ref l), a8, some (.ref r), a10, a11, none] 3 (some x)).set 8 (some y)) H2)
  refine lc9_read (σ := [v0, v1, a2, a3, some (.ref u), some (.ref d), some (.ref h), some (.ref l), a8, some (.ref r), a10, a11, none]) (i := 4) (j := 7) (m := 6) (n := 5) (fun _ => rfl) (fun _ => rfl) (fun _ => rfl) (fun _ => rfl) hu hl hh hd (fun _ => rfl) (fun _ => rfl) fun L1 H1 s1 hL1 => ?_
  refine lc9_read (σ := [v0, v1, a2, some (.ref L1), some (.ref u), some (.ref d), some (.ref h), some (.ref l), a8, some (.ref r), a10, a11, none]) (i := 5) (j := 6) (m := 7) (n := 4) (fun _ => rfl) (fun _ => rfl) (fun _ => rfl) (fun _ => rfl) (s1 _ _ hd) (s1 _ _ hh) (s1 _ _ hl) (s1 _ _ hu) (fun _ => rfl) (fun _ => rfl) fun L2 H2 s2 hL2 => ?_
  exact k L1 L2 H2 (s1.trans s2) (s2 _ _ hL1) hL2
theorem fx8_read {σ : L2.St} (hs : σ[9]? = some (some (.ref r))) (hr : H r = some (.tup [.str "fixes", .int 8])) (kr : ∀ H', Same H H' → D.rt (.bl true) H') : tFx8 K D σ H :=
  ⟨_, hs, by show 2 ≤ sizeLine; decide, fun q nq => pair_read hr (.str _) (.int _) (fun _ _ => .str _) (fun _ _ => .int _) (by decide +kernel) (by decide +kernel) nq (kr _ (same_new nq))⟩
theorem sum9 (hg : RowP H gl G) (hl : RowP H ll L) (told : 8 < G.length ∨ 8 < L.length → H r = some (.tup [.str "fixes", .int 8])) (kr : ∀ H', Same H H' → D.rt (.bl true) H')
    (k : G.length ≤ 8 → L.length ≤ 8 → D.nx [v0, v1, a2, some (.ref gl), some (.ref u), some (.ref d), some (.ref h), some (.ref l), some (.ref ll), some (.ref r), a10, a11, none] H) :
    tS9 K D [v0, v1, a2, some (.ref gl), some (.ref u), some (.ref d), some (.ref h), some (.ref l), some (.ref ll), some (.ref r), a10, a11, none] H := by
  refine ⟨_, rfl, gl, _, rfl, .inl (SqL.of hg), _, 8, rfl, rfl, _, rfl, ?_⟩
  rw [List.length_map]
  by_cases h1 : (8 : Int) < (G.length : Nat)
  · exact if_posB (decide_eq_true h1) (if_posB rfl (fx8_read rfl (told (.inl (by omega))) kr))
  · refine if_negB (decide_eq_false h1) ⟨_, rfl, ll, _, rfl, .inl (SqL.of hl), _, 8, rfl, rfl, _, rfl, ?_⟩
    rw [List.length_map]
    by_cases h2 : (8 : Int) < (L.length : Nat)
    · exact if_posB (decide_eq_true h2) (fx8_read rfl (told (.inr (by omega))) kr)
    · exact if_negB (decide_eq_false h2) (k (by omega) (by omega))
theorem sumx (hg : RowP H gl G) (hl : RowP H ll L) (fg : FxOk G) (fl : FxOk L) (ap : apartB G L = true) {x : Addr} (hr : H r = some (.lst [.ref x])) (hx : IsNote K H x G L) (kr : ∀ H', Same H H' → D.rt (.bl true) H') :
    tSx K D [v0, v1, a2, some (.ref gl), some (.ref u), some (.ref d), some (.ref h), some (.ref l), some (.ref ll), some (.ref r), a10, a11, none] H := by
  refine ⟨_, rfl, ?_⟩
  show tNoteOf K 3 8 [v0, v1, a2, some (.ref gl), some (.ref u), some (.ref d), some (.ref h), some (.ref l), some (.ref ll), some (.ref r), a10, a11, none] H (fun x H1 => ([x] : List V).length ≤ sizeLine ∧ ∀ p, H1 p = none → rEqG (DList (DIns (gNo K) (EqNt K))) (.ref r) (.ref p) (upd H1 p (.lst [x])) D.rt)
  refine noteOf_read rfl rfl hg hl fg fl ap fun d H1 s1 nd => ⟨by show 1 ≤ sizeLine; decide, fun q nq => ?_⟩
  have s2 := same_new (o := .lst [V.ref d]) nq
  have n1 := IsNote.same hx (s1.trans s2)
  have n2 := IsNote.same nd s2
  have n1' := n1
  have n2' := n2
  obtain ⟨dx, _, _, N1⟩ := n1'
  obtain ⟨dy, _, _, N2⟩ := n2'
  refine ⟨⟨r, q, _, _, rfl, rfl, s2 _ _ (s1 _ _ hr), upd_same, .cons ⟨x, d, dx, dy, _, _, rfl, rfl, N1.ob, N2.ob, G, L, n1, n2⟩ .nil⟩, fun H' e => kr H' (s1.trans (s2.trans e))⟩
def spSm (K : PySem.W.Frag) : Sp := fun vs H Q _ => ∃ (p a : Addr) (cs : List Int) (b g : Int), vs = [.ref p] ∧ Pen H p a cs b g ∧ b ≤ 800 ∧ Tabs (TL K) H ∧
  ∀ (b' g' : Int) (H' : Hp), b' ≤ b + 36 → Pen H' p a cs b' g' → Ext2 H H' p → Tabs (TL K) H' → Q (.bl true) H'
theorem Pen.extN {H H' : Hp} {p a : Addr} {cs : List Int} {b g : Int} (N : Pen H p a cs b g) (s : ExtN H H') : Pen H' p a cs b g := ⟨s _ _ N.pn (fun _ z => nomatch z), s _ _ N.ce (fun _ z => nomatch z), N.b0, N.g0, N.ln⟩
theorem read_sum (T : KF P w K mg base) {H : Hp} {Q : VK} {E : XK} {vs : List V} (h : spSm K vs H Q E) : tSm K { nx := fun _ H' => Q .non H', rt := Q } (L2.start ["_law_pen_here", "_law_parts", "_law_turn", "_law_gained", "_law_up", "_law_down", "_law_high", "_law_low", "_law_lost", "_law_heard_here", "_law_one", "_law_other", "_law_fix"] vs) H := by
  obtain ⟨p, a, cs, b, g, rfl, N, hb, hT, k⟩ := h
  show tSeq tS1 (tS2 K) { nx := tSeq (tS3 K) (tSeq (tS4 K) (tSeq (tS5 K) (tSeq (tS6 K) (tSeq (tS7 K) (tSeq (tS8 K) (tSeq (tS9 K) (tSx K))))))) { nx := fun _ H' => Q .non H', rt := Q }, rt := Q } [some (.ref p), none, none, none, none, none, none, none, none, none, none, none, none] H
  refine sum12 N hb fun PP a2 a3 tps parts b' g' H1 hl2 ok hb' N1 s1 hP hp => ?_
  match parts, hl2, tps, hp, hP, ok with
  | [(U, W), (X, Y)], _, [t0, t1], hp, hP, ok =>
    obtain ⟨⟨u, d, e0, _, _, hu, hd⟩, ⟨h, l, e1, _, _, hh, hl⟩, _⟩ := hp
    have o0 : PartOk (U, W) := ok _ (by simp)
    have o1 : PartOk (X, Y) := ok _ (by simp)
    refine sum3 hP e0 e1 ?_
    refine sum4 hP e0 e1 hu hd hh hl o0 o1 fun n0 n1 H2 s2 m0 m1 => ?_
    have T2 := (tabs_up hT N s1).ext s2
    refine sum5 T T2 m0 m1 fun r H3 e3 T3 hr => ?_
    have hr : HeardAdd K H3 r U W X Y := hr
    have kp : ∀ {c : Addr} {ns : List Str}, RowP H1 c ns → RowP H3 c ns := fun q => e3 _ _ (s2 _ _ q) (fun _ z => nomatch z)
    have fin : ∀ H', Same H3 H' → Q (.bl true) H' := fun H' s => by
      refine k b' g' H' hb' (((N1.same s2).extN e3).same s) (fun c o hc e n => s _ _ (e3 _ _ (s2 _ _ (s1 c o hc e)) n)) (T3.ext s)
    refine sum6 (kp hu) (kp hd) (kp hh) (kp hl) o0.g o0.l hr fin fun ap1 ap2 H4 s4 => ?_
    have kq : ∀ {c : Addr} {ns : List Str}, RowP H1 c ns → RowP H4 c ns := fun q => s4 _ _ (kp q)
    refine sum78 (kq hu) (kq hd) (kq hh) (kq hl) fun gl ll H5 s5 hg hll => ?_
    have s45 := s4.trans s5
    have eg := gain_eq (U := U) (W := W) (X := X) (Y := Y) (fun x hx => o0.g.sub.subset hx) (fun x hx => o1.g.sub.subset hx) o0.ap o1.ap
    have el := gain_eq (U := W) (W := U) (X := Y) (Y := X) (fun x hx => o0.l.sub.subset hx) (fun x hx => o1.l.sub.subset hx) (apart_comm o0.ap) (apart_comm o1.ap)
    have hr5 := hr.same s45
    have s1g : (lettersL.filter fun z => (decide (z ∈ U) && !decide (z ∈ Y)) || (decide (z ∈ X) && !decide (z ∈ W))).Sublist lettersL := List.filter_sublist
    have s1l : (lettersL.filter fun z => (decide (z ∈ W) && !decide (z ∈ X)) || (decide (z ∈ Y) && !decide (z ∈ U))).Sublist lettersL := List.filter_sublist
    rw [eg] at hg s1g
    rw [el] at hll s1l
    refine sum9 hg hll (fun z => ?_) (fun H' s => fin H' (s45.trans s)) fun g8 l8 => ?_
    · rcases hr5 with ⟨z1, _⟩ | ⟨_, _, _, e⟩ | ⟨_, _, z3, z4, _⟩
      · rcases z1 with z1 | z1
        · rw [ap1] at z1; cases z1
        · rw [ap2] at z1; cases z1
      · exact e
      · omega
    · rcases hr5 with ⟨z1, _⟩ | ⟨_, _, z3, _⟩ | ⟨_, _, _, _, x, e, n⟩
      · rcases z1 with z1 | z1
        · rw [ap1] at z1; cases z1
        · rw [ap2] at z1; cases z1
      · omega
      · exact sumx hg hll ⟨s1g, g8⟩ ⟨s1l, l8⟩ apart_without e n fun H' s => fin H' (s45.trans s)
end
end K6
set_option Elab.async false
set_option linter.all false
set_option maxRecDepth 100000
set_option maxHeartbeats 1000000
/-! _law_sum_right: its code. -/
namespace K6
open PySem PySem.Spec PyProof.Rows L2 RV EV He EF EI Hd LamX Kw
/-- what _law_heard's def is, where it stands -/
theorem heardF {P : Program} {w : World} {K : PySem.W.Frag} {mg : Str → Option Value} {base : Heap} (T : KF P w K mg base) : ∃ oc od dV kV doc pm an cdv ct osl, K.lookup (ga K "_law_heard") = some ⟨oc, od, .func (PySem.W.fnOf "_law_heard" "_law_heard" (defArgs sHeard) (defBody sHeard) (defScope sHeard) dV kV doc pm an cdv ct), osl⟩ ∧
    PySem.W.codeIn K cdv "_law_heard" = true ∧ L2.Binds K (PySem.W.fnOf "_law_heard" "_law_heard" (defArgs sHeard) (defBody sHeard) (defScope sHeard) dV kV doc pm an cdv ct) ["_law_ask"] [] ∧ PySem.W.keepIn K (.ref (ga K "_law_heard")) = true ∧ mg "_law_heard" = some (.ref (ga K "_law_heard")) := by
  obtain ⟨fd, F, g⟩ := T.tops ("_law_heard", 44) (by decide)
  have b : L2.Binds K fd ["_law_ask"] [] := FunD.bindsN F fun _ _ _ _ _ _ us hl => match us, hl with | [_], _ => rfl
  obtain ⟨oc, od, dV, kV, doc, pm, an, cdv, ct, osl, rfl, lk, hcd, _, _⟩ := F.ex
  exact ⟨oc, od, dV, kV, doc, pm, an, cdv, ct, osl, lk, hcd, b, F.kp, g⟩
/-- _law_heard(lambda: body) in a def whose lambdas' table is known -/
theorem pe_heard {X : Cx} {c : Addr × Addr} {k : Nat} {params : Arguments} {body : Expr} {scope : Scope} {t : XK → TE} {p lpos pos : Pos} (T : KF X.prog X.w X.K X.mg X.base) (TB : TabB X.base X.mg c.1 c.2) (hcode : X.env.code = .ref c.1)
    (hmT : (c.2, X.env.qual ++ "<lambda>") ∈ TL X.K) (hu : ∀ p ∈ TL X.K, p.1 = c.2 → p.2 = X.env.qual ++ "<lambda>") (hg : Gl X "_law_heard") (hr : Room (k + 2) X.A) (L : LamS X.env.scope scope) (hdef : defaultsOf params X.env = ([], []))
    (hbind : ∀ (q : Str) (cl : List (Str × Addr)) (pm cv ctv : Value), bindArgs (PySem.W.kla_fn "<lambda>" q params body scope cl pm cv ctv) ⟨[], []⟩ = pure [])
    (hbody : ∀ (A : Around) (outer : List Env) (s : Shared) (H : Hp) (E : XK) (f c' : Addr), Room k (A.deeper (lamEnv X scope s.heap.objs.size f c')) → PE (lamCx X A outer s H E scope f c') body (t E)) :
    PE X (.Call (.Name "_law_heard" p) [.Lambda params body scope lpos] [] pos) (tLam (TL X.K) (TTh X.K) t) := by
  obtain ⟨oc, od, dV, kV, doc, pm, an, cdv, ct, osl, lk, hcd, b, kp, g⟩ := heardF T
  exact pe_lamcall hg g kp lk hcd b scHd rfl (.inl rfl) (heard_gives T) TB hcode hmT hu hr L hdef hbind hbody
abbrev sSm : Stmt := top 48
abbrev scSm_N : List Str := ["_law_pen_here", "_law_parts", "_law_turn", "_law_gained", "_law_up", "_law_down", "_law_high", "_law_low", "_law_lost", "_law_heard_here", "_law_one", "_law_other", "_law_fix"]
theorem scSm : FnScope scSm_N ["_law_pen_here"] (defScope sSm) := ⟨rfl, rfl, rfl, by decide +kernel, rfl, by decide +kernel, by decide +kernel⟩
abbrev qSm : Str × Nat := ("_law_sum_right", 48)
section
variable {P : Program} {w : World} {K : PySem.W.Frag} {mg : Str → Option Value} {base : Heap}
theorem eq_sp (T : KF P w K mg base) : ∃ fd, FnOk P w K mg base CX0 2 (ma K (gNo K) "__eq__") fd ["self", "other"] (spEq (EqNt K)) ∧ L2.Binds K fd ["self", "other"] [] := by
  obtain ⟨_, fe, Fe⟩ := T.note ("__eq__", 3) (by decide)
  refine ⟨fe, (ok_noEq T Fe).imp ?_, FunD.bindsN Fe fun _ _ _ _ _ _ us hl => match us, hl with | [_, _], _ => rfl⟩
  rintro vs H Q E ⟨a, b, rfl, ⟨ga, lo, h1, h2⟩, k⟩
  refine ⟨a, ga, lo, .ref b, rfl, h1, .inl ⟨b, ga, lo, rfl, h2, ?_⟩⟩
  rw [decide_eq_true rfl, decide_eq_true rfl]
  exact k H fun _ _ e => e
theorem op_eqNs {X : Cx} (T : KF X.prog X.w X.K X.mg X.base) (hr : Room 4 X.A) : OpR X (compareOp .Eq) (rEqG (DList (DIns (gNo X.K) (EqNt X.K)))) := by
  obtain ⟨fe, Fe, be⟩ := eq_sp T
  have m := nm T ("__eq__", 3) (by decide)
  exact op_eqG (rcG_list mon_eqn (eqG_ins (E := E0) Fe m.at_ m.fn be pass0)) (hr.mono (by decide))
theorem code_sum (T : KF P w K mg base) (TB : TabB base mg (cc K qSm).1 (cc K qSm).2) {f : Addr} {A : Around} {outer : List Env} {s : Shared} {H : Hp} {E : XK} {cdv : Value} (hcd : cdv = .ref (cc K qSm).1) (hr : Room 13 (A.deeper (envOfC "_law_sum_right" (defScope sSm) s.heap.objs.size f cdv))) :
    ∃ t, PSs (cxOf CX0 P w K mg base scSm_N "_law_sum_right" (defScope sSm) f cdv A outer s H E) (defBody sSm) t ∧ t = tSm K := by
  obtain ⟨fF, GF, bF, kF, gF⟩ := c_fxs (w := w) T
  obtain ⟨fL, GL, bL, kL, gL⟩ := c_llot (w := w) T
  obtain ⟨fn, Gn, bn, mn, gn⟩ := mk_note (w := w) T
  have hu := hr.units
  have nd := scSm.nd
  have hm : ((cc K qSm).2, qOf qSm) ∈ TL K := tl_mem (by decide)
  have hu2 := tl_one T (q := qSm) (by decide)
  refine ⟨_, PSs.nox
    (pss_cons (ps_set (i := 1) nd rfl (.inl rfl) (pe_lst pa_nil))
    (pss_cons (ps_for PassesOwn.never rfl (pi_range1 (by rfl) (T.fr "range" (by decide)) (pa_cons pe_int pa_nil)) (pg_name (i := 2) nd rfl (.inl rfl))
      (pss_cons (ps_set (i := 3) nd rfl (.inr rfl) (pe_call (E := E0) GF (hr.mono (by decide)) (by rfl) gF kF bF .nil pass0 (pa_cons (pv 0) (pa_cons pe_int pa_nil))))
      (pss_one (ps_expr (pe_bm PySem.F.plainAttrs_list PySem.F.slot_list_append PySem.F.type_list_append mt_append (pv 1)
        (pa_cons (pe_tup (pa_cons (pv 3) (pa_cons (pe_lc (own := [("_law_fix", 12)]) (g := gName 12) (tt := tTest (tOp (rIn K true) (tVar 12) (tVar 3))) (te := tVar 12) rfl nd
          (pi_list (pe_call (E := E0) GF (hr.mono (by decide)) (by rfl) gF kF bF .nil pass0 (pa_cons (pv 0) (pa_cons pe_int pa_nil))))
          (blkOk_by (N := scSm_N) (sc := defScope sSm) (by decide +kernel)) (fun _ _ _ _ _ => pg_name (i := 12) nd rfl (.inl rfl)) (fun _ _ _ _ _ => pts_one (pt_cmpR op_notIn_seq (pv 12) (pv 3) rfl)) (fun _ _ _ _ _ => pv 12)) pa_nil))) pa_nil))))))
    (pss_cons (ps_asg (pv 1) (pg_lst (by rfl) (pgs_cons (pg_tup (by rfl) (pgs_cons (pg_name (i := 4) nd rfl (.inr rfl)) (pgs_cons (pg_name (i := 5) nd rfl (.inr rfl)) pgs_nil)))
        (pgs_cons (pg_tup (by rfl) (pgs_cons (pg_name (i := 6) nd rfl (.inr rfl)) (pgs_cons (pg_name (i := 7) nd rfl (.inr rfl)) pgs_nil))) pgs_nil))))
    (pss_cons (ps_asg (pe_lc (own := [("_law_gained", 3), ("_law_lost", 8)]) (g := gTup K 2 (gCons (gName 3) (gCons (gName 8) gNil))) (tt := tYes)
          (te := tMake (gNo K) (spNoI K) [] E0 (tCons (tCall (spLlot K) [] E0 (tCons (tVar 3) tNil)) (tCons (tCall (spLlot K) [] E0 (tCons (tVar 8) tNil)) tNil))) rfl nd (pi_list (pv 1))
          (blkOk_by (N := scSm_N) (sc := defScope sSm) (by decide +kernel)) (fun _ _ _ _ _ => pg_tup (by rfl) (pgs_cons (pg_name (i := 3) nd rfl (.inl rfl)) (pgs_cons (pg_name (i := 8) nd rfl (.inl rfl)) pgs_nil))) (fun _ _ _ _ _ => pts_nil)
          (fun _ _ _ _ _ => pe_make (E := E0) mn Gn (hr.mono (by decide)) (by rfl) gn bn .nil passL (pa_cons (pe_call (E := E0) GL (hr.mono (by decide)) (by rfl) gL kL bL .nil pass0 (pa_cons (pv 3) pa_nil)) (pa_cons (pe_call (E := E0) GL (hr.mono (by decide)) (by rfl) gL kL bL .nil pass0 (pa_cons (pv 8) pa_nil)) pa_nil))))
        (pg_lst (by rfl) (pgs_cons (pg_name (i := 10) nd rfl (.inr rfl)) (pgs_cons (pg_name (i := 11) nd rfl (.inr rfl)) pgs_nil))))
    (pss_cons (ps_set (i := 9) nd rfl (.inl rfl) (pe_heard (k := 10) (t := fun E' => tOp (Oo.rOwn2 K (gNo K) (Oo.okAdd K (gNo K)) (spAdd K) E') (tVar 10) (tVar 11)) T TB hcd hm hu2 (by rfl) (hr.mono (by decide)) (lamS_by (by show lamSB (defScope sSm) _ = true; decide +kernel)) rfl (fun _ _ _ _ _ => rfl)
        (fun A2 out2 s2 H2 E2 f2 c2 hr2 => pe_op (Oo.op_add (E := E2) (opc_add T) (r_add T) (hr2.mono (by decide)) (passes_call (takes_of rfl rfl rfl rfl) fun _ _ _ _ h => h)) (pv 10) (pv 11))))
    (pss_cons (ps_if (PW.pt (pw_or (pt_cmpR (op_neD hu) (pe_lc (own := [("_law_fix", 12)]) (g := gName 12) (tt := tTest (tOp (rIn K false) (tVar 12) (tVar 6))) (te := tVar 12) rfl nd (pi_list (pv 4)) (blkOk_by (N := scSm_N) (sc := defScope sSm) (by decide +kernel)) (fun _ _ _ _ _ => pg_name (i := 12) nd rfl (.inl rfl)) (fun _ _ _ _ _ => pts_one (pt_cmpR op_in_seq (pv 12) (pv 6) rfl)) (fun _ _ _ _ _ => pv 12)) (pe_lst pa_nil) (nomark _)) (pw_or1 (pt_cmpR (op_neD hu) (pe_lc (own := [("_law_fix", 12)]) (g := gName 12) (tt := tTest (tOp (rIn K false) (tVar 12) (tVar 7))) (te := tVar 12) rfl nd (pi_list (pv 5)) (blkOk_by (N := scSm_N) (sc := defScope sSm) (by decide +kernel)) (fun _ _ _ _ _ => pg_name (i := 12) nd rfl (.inl rfl)) (fun _ _ _ _ _ => pts_one (pt_cmpR op_in_seq (pv 12) (pv 7) rfl)) (fun _ _ _ _ _ => pv 12)) (pe_lst pa_nil) (nomark _)))))
        (pss_one (ps_ret (pe_cmpR (op_eqD hu) (pv 9) (pe_tup (pa_cons pe_str (pa_cons pe_str pa_nil))) (nomark _)))) pss_nil)
    (pss_cons (ps_set (i := 3) nd rfl (.inr rfl) (pe_lc (own := [("_law_fix", 12)]) (g := gName 12) (tt := tOr (tAnd (tTest (tOp (rIn K false) (tVar 12) (tVar 4))) (tTest (tOp (rIn K true) (tVar 12) (tVar 7)))) (tAnd (tTest (tOp (rIn K false) (tVar 12) (tVar 6))) (tTest (tOp (rIn K true) (tVar 12) (tVar 5))))) (te := tVar 12) rfl nd (pi_str pe_str) (blkOk_by (N := scSm_N) (sc := defScope sSm) (by decide +kernel)) (fun _ _ _ _ _ => pg_name (i := 12) nd rfl (.inl rfl)) (fun _ _ _ _ _ => pts_one (PW.pt (pw_or (PW.pt (pw_and (pt_cmpR op_in_seq (pv 12) (pv 4) rfl) (pw_and1 (pt_cmpR op_notIn_seq (pv 12) (pv 7) rfl)))) (pw_or1 (PW.pt (pw_and (pt_cmpR op_in_seq (pv 12) (pv 6) rfl) (pw_and1 (pt_cmpR op_notIn_seq (pv 12) (pv 5) rfl)))))))) (fun _ _ _ _ _ => pv 12)))
    (pss_cons (ps_setLc (i := 8) (own := [("_law_fix", 12)]) (g := gName 12) (tt := tOr (tAnd (tTest (tOp (rIn K false) (tVar 12) (tVar 5))) (tTest (tOp (rIn K true) (tVar 12) (tVar 6)))) (tAnd (tTest (tOp (rIn K false) (tVar 12) (tVar 7))) (tTest (tOp (rIn K true) (tVar 12) (tVar 4))))) (te := tVar 12) rfl nd rfl rfl (sw_true rfl rfl rfl (by decide +kernel)) (pi_str pe_str) (blkOk_by (N := scSm_N) (sc := defScope sSm) (by decide +kernel)) (fun _ _ _ _ _ => pg_name (i := 12) nd rfl (.inl rfl)) (fun _ _ _ _ _ => pts_one (PW.pt (pw_or (PW.pt (pw_and (pt_cmpR op_in_seq (pv 12) (pv 5) rfl) (pw_and1 (pt_cmpR op_notIn_seq (pv 12) (pv 6) rfl)))) (pw_or1 (PW.pt (pw_and (pt_cmpR op_in_seq (pv 12) (pv 7) rfl) (pw_and1 (pt_cmpR op_notIn_seq (pv 12) (pv 4) rfl)))))))) (fun _ _ _ _ _ => pv 12))
    (pss_cons (ps_if (PW.pt (pw_or (pt_cmpR op_gt (pe_callB call_len_seq (by rfl) (T.fr "len" (by decide)) PySem.boot_len (pa_cons (pv 3) pa_nil)) pe_int (nomark _)) (pw_or1 (pt_cmpR op_gt (pe_callB call_len_seq (by rfl) (T.fr "len" (by decide)) PySem.boot_len (pa_cons (pv 8) pa_nil)) pe_int (nomark _)))))
        (pss_one (ps_ret (pe_cmpR (op_eqD hu) (pv 9) (pe_tup (pa_cons pe_str (pa_cons pe_int pa_nil))) (nomark _)))) pss_nil)
    (pss_one (ps_ret (pe_cmpR (op_eqNs T (hr.mono (by decide))) (pv 9) (pe_lst (pa_cons (pe_make (E := E0) mn Gn (hr.mono (by decide)) (by rfl) gn bn .nil passL (pa_cons (pe_call (E := E0) GL (hr.mono (by decide)) (by rfl) gL kL bL .nil pass0 (pa_cons (pv 3) pa_nil)) (pa_cons (pe_call (E := E0) GL (hr.mono (by decide)) (by rfl) gL kL bL .nil pass0 (pa_cons (pv 8) pa_nil)) pa_nil))) pa_nil)) (nomark _))))))))))))), ?_⟩
  rfl
theorem ok_sum (T : KF P w K mg base) (TB : TabB base mg (cc K qSm).1 (cc K qSm).2) : Callee P w K mg base CX0 14 "_law_sum_right" ["_law_pen_here"] (spSm K) := by
  obtain ⟨fd, F, g⟩ := T.tops qSm (by decide)
  have b : L2.Binds K fd ["_law_pen_here"] [] := FunD.bindsN F fun _ _ _ _ _ _ us hl => match us, hl with | [_], _ => rfl
  have kp := F.kp
  obtain ⟨oc, od, dV, kV, doc, pm, an, cdv, ct, osl, rfl, lk, hcd, _, _⟩ := F.ex
  obtain ⟨c, rfl⟩ := He.codeIn_ref hcd
  have ec : (cc K qSm).1 = c := He.codeOf_eq (p := ("_law_sum_right", none)) lk rfl
  refine ⟨_, L2.fn_of lk hcd scSm (fun vs H Q E h => ?_) (fun A outer s H vs Q E hr h => ?_), b, kp, g⟩
  · obtain ⟨p, a, cs, b, g, rfl, _⟩ := h
    rfl
  · obtain ⟨t, ht, rfl⟩ := code_sum (E := E) T TB (by rw [ec]) hr
    exact ⟨_, ht, read_sum T (E := E) h⟩
end
end K6
set_option Elab.async false
set_option linter.all false
set_option maxRecDepth 100000
set_option maxHeartbeats 1000000
/-! law: its readings. -/
namespace K6
open PySem PySem.Spec PyProof.Rows L2 RV EV He EF EI Hd LamX Kw
abbrev tNP (K : PySem.W.Frag) (z : Str) : TE := Oo.tNewP (gO K) (spStar (spLi K)) E0 (tCons (tC (V.str z)) tNil)
def tMkN (K : PySem.W.Frag) (a b : TE) : TE := tMake (gNo K) (spNoI K) [] E0 (tCons a (tCons b tNil))
abbrev tAddE (K : PySem.W.Frag) (a b : TE) : XK → TE := fun E' => tOp (Oo.rOwn2 K (gNo K) (Oo.okAdd K (gNo K)) (spAdd K) E') a b
abbrev tFx : TE := tTup (tCons (tC (V.str "fixes")) (tCons (tC (V.int 8)) tNil))
def tL1 (K : PySem.W.Frag) : TS := tAsg (tCall (spPen K) [] E0 (tCons (tVar 0) tNil)) (gName 1)
def tLa (K : PySem.W.Frag) : TS := tIfS (tOr (tNot (tB (tCall (spRw K) [] E0 (tCons (tVar 1) tNil)))) (tNot (tB (tCall (spSm K) [] E0 (tCons (tVar 1) tNil))))) tNo tNext
def tLb (K : PySem.W.Frag) : TS := tAsg (tCall spPick [] E0 (tCons (tVar 1) (tCons (tLst (tCons (tC .non) (tCons (tC (V.int 0)) (tCons (tC (V.str "+a")) (tCons (tNP K "a") (tCons (tTup tNil) (tCons (tLst tNil) tNil))))))) tNil))) (gName 5)
def tLd (K : PySem.W.Frag) : TS := tIfS (tTest (tOp (rNeD K) (tHd K (tAddE K (tMkN K (tNP K "a") (tNewL K)) (tVar 5))) (tTup (tCons (tC (V.str "way")) (tCons (tCB Oo.rRepT (tCons (tC (V.str "other")) tNil)) tNil))))) tNo tNext
def tL2b (K : PySem.W.Frag) : TS := tSeq (tLa K) (tSeq (tLb K) (tLd K))
def tL2 (K : PySem.W.Frag) : TS := tFor (iRng1 (tCons (tC (V.int 7)) tNil)) (gName 2) (tL2b K)
def tL3 (K : PySem.W.Frag) : TS := tAsg (tTup (tCons (tMkN K (tCall (spLlot K) [] E0 (tCons (tC (V.str "abcdefgh")) tNil)) (tNewL K)) (tCons (tMkN K (tNP K "i") (tNP K "a")) tNil))) (gTup K 2 (gCons (gName 4) (gCons (gName 3) gNil)))
def tL4 (K : PySem.W.Frag) : TS := tIfS (tOr (tTest (tOp (rNeD K) (tHd K (tAddE K (tVar 4) (tMkN K (tNP K "i") (tNewL K)))) tFx)) (tTest (tOp rNe (tCB (Oo.rStrO (gNo K) (spStN K) E0) (tCons (tAdN K (tVar 4) (tVar 3)) tNil)) (tC (V.str "+b +c +d +e +f +g +h +i"))))) tNo tNext
def tL5 (K : PySem.W.Frag) : TS := tRet (tOp (rEqD K) (tHd K (tAddE K (tNgN K (tVar 4)) (tMkN K (tNewL K) (tNP K "i")))) tFx)
def tLw (K : PySem.W.Frag) : TS := tSeq (tL1 K) (tSeq (tL2 K) (tSeq (tL3 K) (tSeq (tL4 K) (tL5 K))))
/-! the repr of a text holds no sign that is none -/
theorem toNat_ok (c : Char) : c.toNat < 0x110000 := by
  have h := c.valid
  show c.val.toNat < 0x110000
  rcases h with h | h
  · have : c.val.toNat < 0xd800 := h
    omega
  · exact h.2
theorem reprChar_ok {q c : Nat} (hc : c < 0x110000) : ∀ x ∈ Builtin.Str.reprChar q c, x < 0x110000 := by
  have hx : ∀ (n : Nat) (x : Nat), x ∈ (let d := (Nat.toDigits 16 c).map Char.toNat; List.replicate (n - d.length) 48 ++ d) → x < 0x110000 := by
    intro n x h
    rcases List.mem_append.mp h with h | h
    · rw [(List.mem_replicate.mp h).2]
      decide
    · obtain ⟨d, _, rfl⟩ := List.mem_map.mp h
      exact toNat_ok d
  intro x h
  unfold Builtin.Str.reprChar at h
  split at h
  · simp only [List.mem_cons, List.not_mem_nil, or_false] at h
    omega
  · split at h
    · simp only [List.mem_cons, List.not_mem_nil, or_false] at h
      omega
    · split at h
      · simp only [List.mem_cons, List.not_mem_nil, or_false] at h
        omega
      · split at h
        · simp only [List.mem_cons, List.not_mem_nil, or_false] at h
          omega
        · split at h
          · simp only [List.mem_cons, List.not_mem_nil, or_false] at h
            omega
          · split at h
            · rcases List.mem_append.mp h with h | h
              · simp only [List.mem_cons, List.not_mem_nil, or_false] at h
                omega
              · exact hx 2 x h
            · split at h
              · rcases List.mem_append.mp h with h | h
                · simp only [List.mem_cons, List.not_mem_nil, or_false] at h
                  omega
                · exact hx 4 x h
              · rcases List.mem_append.mp h with h | h
                · simp only [List.mem_cons, List.not_mem_nil, or_false] at h
                  omega
                · exact hx 8 x h
theorem foldl_ok {q : Nat} : ∀ (l : List Nat) (acc : Array Nat), (∀ c ∈ l, c < 0x110000) → (∀ x ∈ acc.toList, x < 0x110000) → ∀ x ∈ (l.foldl (fun out c => out ++ (Builtin.Str.reprChar q c).toArray) acc).toList, x < 0x110000
  | [], acc, _, h, x, hx => h x hx
  | c :: l, acc, hl, h, x, hx => foldl_ok l _ (fun c hc => hl c (List.mem_cons_of_mem _ hc)) (fun y hy => by
      rw [Array.toList_append] at hy
      rcases List.mem_append.mp hy with z | z
      · exact h y z
      · exact reprChar_ok (hl c (List.mem_cons_self ..)) y z) x hx
theorem repr_ok {z : Str} (h : ∀ c ∈ z.cps.toList, c < 0x110000) : PyData.strOk (reprText z) = true := by
  have q : reprQuote z < 0x110000 := by
    unfold reprQuote
    split <;> decide
  unfold PyData.strOk
  rw [← Array.all_toList, List.all_eq_true]
  intro c hc
  refine decide_eq_true ?_
  unfold reprText at hc
  rw [Array.toList_push] at hc
  rcases List.mem_append.mp hc with z1 | z1
  · rw [← Array.foldl_toList] at z1
    exact foldl_ok _ _ h (fun y hy => by
      have : y = reprQuote z := by simpa using hy
      rw [this]
      exact q) c z1
  · rw [List.mem_singleton.mp z1]
    exact q
theorem other_ok : PyData.strOk (reprText "other") = true := repr_ok (by decide +kernel)
theorem other_len : (reprText "other").length ≤ sizeLine := by
  have h := StrLaws.reprText_len "other" (by decide +kernel)
  have e : ("other" : Str).length = 5 := rfl
  rw [e] at h
  rw [sizeLine_eq]
  omega
/-- what is no note -/
inductive Odd (K : PySem.W.Frag) (H : Hp) : V → Prop
  | non : Odd K H .non
  | int (i : Int) : Odd K H (.int i)
  | str (z : Str) : Odd K H (.str z)
  | lot {q : Addr} {ns : List Str} (h : IsLot K H q ns) : Odd K H (.ref q)
  | tup {a : Addr} {xs : List V} (h : H a = some (.tup xs)) : Odd K H (.ref a)
  | lst {a : Addr} {xs : List V} (h : H a = some (.lst xs)) : Odd K H (.ref a)
theorem Odd.ext {K : PySem.W.Frag} {H H' : Hp} {v : V} (o : Odd K H v) (s : ExtN H H') : Odd K H' v := by
  cases o with
  | non => exact .non
  | int i => exact .int i
  | str z => exact .str z
  | lot h =>
    obtain ⟨dl, tl, L⟩ := h
    exact .lot ⟨dl, tl, s _ _ L.ob (fun _ z => nomatch z), s _ _ L.ps (fun _ z => nomatch z), L.asc, L.fx, L.le⟩
  | tup h => exact .tup (s _ _ h (fun _ z => nomatch z))
  | lst h => exact .lst (s _ _ h (fun _ z => nomatch z))
section
variable {P : Program} {w : World} {mg : Str → Option Value} {base : Heap} {K : PySem.W.Frag} {H : Hp} {D : Ends} {Q : VK} {σ : L2.St}
theorem Odd.ty (T : KF P w K mg base) {v : V} (o : Odd K H v) : ∃ t, TyX K H v t ∧ PySem.W.kitOne K t (.ref (gNo K)) = some false ∧ Oo.okAdd K (gNo K) t := by
  have kt := kits T
  cases o with
  | non => exact ⟨.type "NoneType", .base .non, kt.bn _ (by decide), .inr (.inl ⟨_, by decide, rfl⟩)⟩
  | int i => exact ⟨.type "int", .base (.int i), kt.bn _ (by decide), .inr (.inl ⟨_, by decide, rfl⟩)⟩
  | str z => exact ⟨.type "str", .base (.str z), kt.bn _ (by decide), .inr (.inl ⟨_, by decide, rfl⟩)⟩
  | lot h =>
    obtain ⟨dl, tl, L⟩ := h
    exact ⟨.ref (gO K), ty_lot T L.ob, kt.ln, add_lot T⟩
  | tup h => exact ⟨.type "tuple", .base (.tup h), kt.bn _ (by decide), .inr (.inl ⟨_, by decide, rfl⟩)⟩
  | lst h => exact ⟨.type "list", .base (.lst h), kt.bn _ (by decide), .inr (.inl ⟨_, by decide, rfl⟩)⟩
theorem np_read {z : Str} (hz : isFixB z = true) (k : ∀ q H', Same H H' → IsLot K H' q [z] → Q (.ref q) H') : tNP K z σ H Q := by
  show Oo.wNew (gO K) (spStar (spLi K)) E0 [.str z] H Q
  exact new_of (K := K) (xs := [.str z]) (MkLot.good (ss := [z]) (by show 1 ≤ 1000; decide) (fun x hx => by rw [List.mem_singleton.mp hx]; exact hz) fun H1 s1 => ⟨fun _ H2 p dx tp s2 O => k p H2 (s1.trans s2) ⟨dx, tp, O⟩, fun h => absurd h (by have := lined_len [z]; simp at this; omega)⟩)
theorem mkN_read {a b : TE} {ga lo : List Str} (ha : ∀ F : VK, (∀ q H', Same H H' → IsLot K H' q ga → F (.ref q) H') → a σ H F) (hb : ∀ (H1 : Hp) (F : VK), Same H H1 → (∀ q H', Same H1 H' → IsLot K H' q lo → F (.ref q) H') → b σ H1 F) (ap : apartB ga lo = true)
    (k : ∀ d H', Same H H' → IsNote K H' d ga lo → Q (.ref d) H') : tMkN K a b σ H Q := by
  show a σ H (fun x H1 => b σ H1 (fun x2 H2 => ∀ u dx, H2 u = none → H2 dx = none → dx ≠ u → spNoI K (.ref u :: ([x, x2] ++ [])) (upd (upd H2 dx (.own u)) u (.ins (gNo K) dx [])) (fun v H3 => v = .non ∧ Q (.ref u) H3) E0))
  refine ha _ fun q H1 s1 O1 => hb H1 _ s1 fun q2 H2 s2 O2 => ?_
  exact note_new (O1.same s2) O2 ap fun u H3 s3 nu => k u H3 (s1.trans (s2.trans s3)) nu
theorem newL_read (k : ∀ q H', Same H H' → IsLot K H' q [] → Q (.ref q) H') : tNewL K σ H Q := new_none k
/-- a sum that is too many -/
theorem manyS_read (T : KF P w K mg base) {p q : Addr} {ga lo gb lb : List Str} (hp : IsNote K H p ga lo) (hq : IsNote K H q gb lb) (a1 : apartB ga gb = true) (a2 : apartB lo lb = true) (h8 : 8 < (lined (without (ga ++ gb) (lo ++ lb))).length ∨ 8 < (lined (without (lo ++ lb) (ga ++ gb))).length)
    (k : ∀ r H', Same H H' → H' r = some (.tup [.str "fixes", .int 8]) → Q (.ref r) H') :
    Oo.rOwn2 K (gNo K) (Oo.okAdd K (gNo K)) (spAdd K) (ErrH K Q) (.ref p) (.ref q) H (fun v H1 => [v].length ≤ sizeLine ∧ ∀ l, H1 l = none → Q (.ref l) (upd H1 l (.lst [v]))) := by
  refine heard_add T hp hq fun r H1 s1 h => k r H1 s1 ?_
  rcases h with ⟨z, _⟩ | ⟨_, _, _, e⟩ | ⟨_, _, z1, z2, _⟩
  · rcases z with z | z
    · rw [a1] at z; cases z
    · rw [a2] at z; cases z
  · exact e
  · omega
theorem odd_read (T : KF P w K mg base) {d : Addr} {ga lo : List Str} {v : V} (hd : IsNote K H d ga lo) (o : Odd K H v) (k : ∀ r H', Same H H' → H' r = some (.tup [.str "way", .str (reprText "other")]) → Q (.ref r) H') :
    Oo.rOwn2 K (gNo K) (Oo.okAdd K (gNo K)) (spAdd K) (ErrH K Q) (.ref d) v H (fun v H1 => [v].length ≤ sizeLine ∧ ∀ l, H1 l = none → Q (.ref l) (upd H1 l (.lst [v]))) := by
  obtain ⟨t, ty, kt, ok⟩ := o.ty T
  have hd' := hd
  obtain ⟨dx, _, _, N⟩ := hd'
  exact ⟨d, dx, _, t, rfl, N.ob, ty, ok, d, ga, lo, v, rfl, hd, .inr ⟨⟨t, ty, kt⟩, fun c nc => .inr (.inr ⟨c, "other", rfl, rfl, upd_same, other_len, fun r H2 s2 hr => k r H2 ((same_new nc).trans s2) hr⟩)⟩⟩
end
end K6
set_option Elab.async false
set_option linter.all false
set_option maxRecDepth 100000
set_option maxHeartbeats 1000000
/-! law: its readings, to the end. -/
namespace K6
open PySem PySem.Spec PyProof.Rows L2 RV EV He EF EI Hd LamX Kw
def l8 : List Str := ("abcdefgh" : Str).cps.toList.map one
def iL : List Str := ["i"]
def aL : List Str := ["a"]
theorem l8_facts : lined l8 = l8 ∧ l8.length = 8 ∧ (∀ x ∈ l8, isFixB x = true) ∧ apartB l8 [] = true ∧ apartB l8 iL = true ∧ apartB ([] : List Str) aL = true ∧ apartB iL aL = true ∧
    (lined (without (l8 ++ iL) ([] ++ []))).length = 9 ∧ noteText (lined (without (l8 ++ iL) ([] ++ aL))) (lined (without ([] ++ aL) (l8 ++ iL))) = "+b +c +d +e +f +g +h +i" ∧
    (lined (without (l8 ++ iL) ([] ++ aL))).length ≤ 8 ∧ (lined (without ([] ++ aL) (l8 ++ iL))).length ≤ 8 ∧ apartB ([] : List Str) l8 = true ∧ apartB ([] : List Str) iL = true ∧ isFixB "a" = true ∧ isFixB "i" = true := by decide +kernel
section
variable {P : Program} {w : World} {mg : Str → Option Value} {base : Heap} {K : PySem.W.Frag} {H : Hp} {D : Ends} {p a : Addr} {cs : List Int} {b g : Int} {v0 a2 a5 : Option V}
theorem read_a (N : Pen H p a cs b g) (hb : b ≤ 700) (hT : Tabs (TL K) H) (k : ∀ b' g' H', b' ≤ b + 91 → Pen H' p a cs b' g' → Tabs (TL K) H' → D.nx [v0, some (.ref p), a2, none, none, a5] H') : tLa K D [v0, some (.ref p), a2, none, none, a5] H := by
  refine ⟨_, rfl, p, a, cs, b, g, rfl, N, by omega, fun b1 g1 H1 hb1 N1 s1 => ⟨true, rfl, if_negB rfl ?_⟩⟩
  refine ⟨_, rfl, p, a, cs, b1, g1, rfl, N1, by omega, tabs_up hT N s1, fun b2 g2 H2 hb2 N2 s2 T2 => ⟨true, rfl, if_negB rfl ?_⟩⟩
  exact k b2 g2 H2 (by omega) N2 T2
theorem read_b (N : Pen H p a cs b g) (hb : b ≤ 900) (hT : Tabs (TL K) H) (k : ∀ v b' g' H', Odd K H' v → b' ≤ b + 1 → Pen H' p a cs b' g' → Tabs (TL K) H' → D.nx [v0, some (.ref p), a2, none, none, some v] H') : tLb K D [v0, some (.ref p), a2, none, none, a5] H := by
  have F := l8_facts
  refine ⟨_, rfl, ?_⟩
  show tNP K "a" [v0, some (.ref p), a2, none, none, a5] H (fun x H1 => tTup tNil [v0, some (.ref p), a2, none, none, a5] H1 fun y H2 => tLst tNil [v0, some (.ref p), a2, none, none, a5] H2 fun z H3 => ([.non, .int 0, .str "+a", x, y, z] : List V).length ≤ sizeLine ∧ ∀ L, H3 L = none → spPick [.ref p, .ref L] (upd H3 L (.lst [.non, .int 0, .str "+a", x, y, z])) (fun v H' => gName 5 v [v0, some (.ref p), a2, none, none, a5] H' D.nx) E0)
  refine np_read (by obtain ⟨_, _, _, _, _, _, _, _, _, _, _, _, _, h, _⟩ := F; exact h) fun q H1 s1 O1 => ?_
  refine ⟨by show 0 ≤ sizeLine; decide, fun t nt => ⟨by show 0 ≤ sizeLine; decide, fun l nl => ⟨by show 6 ≤ sizeLine; decide, fun L nL => ?_⟩⟩⟩
  have s2 := same_new (o := .tup []) nt
  have s3 := same_new (o := .lst []) nl
  have s4 := same_new (o := .lst [V.non, V.int 0, V.str "+a", V.ref q, V.ref t, V.ref l]) nL
  have sA := s1.trans (s2.trans (s3.trans s4))
  have N4 := Pen.same N sA
  have Lp : L ≠ p := fun e => by
    rw [e, (Pen.same N (s1.trans (s2.trans s3))).pn] at nL
    cases nL
  have lp : l ≠ p := fun e => by
    rw [e, (Pen.same N (s1.trans s2)).pn] at nl
    cases nl
  refine ⟨p, a, L, cs, b, g, _, rfl, N4, by omega, Lp, upd_same, by simp, by show 6 < 1000; decide, fun v b' g' H' hv hb' N' s' => ?_⟩
  have sN := same2N N4.pn s'
  refine k v b' g' H' ?_ hb' N' (tabs_up (hT.ext sA) N4 s')
  simp only [List.mem_cons, List.not_mem_nil, or_false] at hv
  rcases hv with rfl | rfl | rfl | rfl | rfl | rfl
  · exact .non
  · exact .int 0
  · exact .str _
  · exact .lot ((IsLot.same O1 (s2.trans (s3.trans s4))).sameN sN)
  · exact .tup (sN _ _ (fun _ z => nomatch z) (s4 _ _ (s3 _ _ upd_same)))
  · exact .lst (s' _ _ lp (s4 _ _ upd_same))
theorem hd_read {σ : L2.St} {x y : TE} {Q : VK} (hT : Tabs (TL K) H) (k : ∀ H1, ExtN H H1 → Tabs (TL K) H1 → x σ H1 (fun u H2 => y σ H2 fun v H3 => Oo.rOwn2 K (gNo K) (Oo.okAdd K (gNo K)) (spAdd K) (ErrH K Q) u v H3 (fun z H4 => [z].length ≤ sizeLine ∧ ∀ l, H4 l = none → Q (.ref l) (upd H4 l (.lst [z]))))) : tHd K (tAddE K x y) σ H Q := ⟨hT, k⟩
theorem read_d (T : KF P w K mg base) (N : Pen H p a cs b g) (hT : Tabs (TL K) H) {v : V} (o : Odd K H v) (k : ∀ H', Pen H' p a cs b g → Tabs (TL K) H' → D.nx [v0, some (.ref p), a2, none, none, some v] H') : tLd K D [v0, some (.ref p), a2, none, none, some v] H := by
  have F := l8_facts
  show tHd K (tAddE K (tMkN K (tNP K "a") (tNewL K)) (tVar 5)) [v0, some (.ref p), a2, none, none, some v] H (fun x H1 => tTup (tCons (tC (V.str "way")) (tCons (tCB Oo.rRepT (tCons (tC (V.str "other")) tNil)) tNil)) [v0, some (.ref p), a2, none, none, some v] H1 fun y H2 => rNeD K x y H2 fun z H3 => ∃ kk, z = .bl kk ∧ if kk = true then tNo D [v0, some (.ref p), a2, none, none, some v] H3 else tNext D [v0, some (.ref p), a2, none, none, some v] H3)
  refine hd_read hT fun H1 e1 T1 => ?_
  refine mkN_read (ga := ["a"]) (lo := []) (fun F' kk => np_read (by obtain ⟨_, _, _, _, _, _, _, _, _, _, _, _, _, h, _⟩ := F; exact h) kk) (fun H2 F' s2 kk => newL_read kk) rfl fun d H2 s2 nd => ?_
  refine ⟨_, rfl, odd_read T nd ((o.ext e1).ext (Same.extN s2)) fun r H3 s3 hr => ?_⟩
  refine ⟨"other", rfl, other_len, by show 2 ≤ sizeLine; decide, fun q nq => ?_⟩
  have s4 := same_new (o := .tup [V.str "way", V.str (reprText "other")]) nq
  have okk : ∀ x ∈ (["way", reprText "other"] : List Str), PyData.strOk x = true := fun x hx => by
    rcases List.mem_cons.mp hx with rfl | hx
    · decide +kernel
    · rw [List.mem_singleton.mp hx]
      exact other_ok
  refine neT (xs := ["way", reprText "other"]) (ys := ["way", reprText "other"]) (SqT.of (s4 _ _ hr)) (SqT.of upd_same) okk okk ⟨false, by rw [decide_eq_true rfl]; rfl, if_negB rfl ?_⟩
  have s := s2.trans (s3.trans s4)
  exact k _ (Pen.same (N.extN e1) s) (T1.ext s)
theorem loop_read (T : KF P w K mg base) (N : Pen H p a cs 0 0) (hT : Tabs (TL K) H) (k : ∀ a2 a5 H', Tabs (TL K) H' → D.nx [v0, some (.ref p), a2, none, none, a5] H') : tL2 K D [v0, some (.ref p), none, none, none, none] H := by
  refine ⟨7, rfl, by decide, by decide, ?_⟩
  refine for_range (lo := 0) (n := 7) (g := gName 2) (tb := tL2b K) (D := D) (fun i σ' H' => ∃ (a2 a5 : Option V) (b' g' : Int), σ' = [v0, some (.ref p), a2, none, none, a5] ∧ b' ≤ 92 * (i : Int) ∧ Pen H' p a cs b' g' ∧ Tabs (TL K) H') ⟨none, none, 0, 0, rfl, by omega, N, hT⟩ ?_ ?_
  · rintro i σ' H' hi ⟨a2, a5, b', g', rfl, hb', N', T'⟩
    refine read_a N' (by omega) T' fun b1 g1 H1 hb1 N1 T1 => ?_
    refine read_b N1 (by omega) T1 fun v b2 g2 H2 o hb2 N2 T2 => ?_
    refine read_d T N2 T2 o fun H3 N3 T3 => ?_
    exact ⟨_, _, b2, g2, rfl, by omega, N3, T3⟩
  · rintro σ' H' ⟨a2, a5, b', g', rfl, hb', N', T'⟩
    exact k a2 a5 H' T'
theorem read3 (k : ∀ f m H', Same H H' → IsNote K H' f l8 [] → IsNote K H' m iL aL → D.nx [v0, some (.ref p), a2, some (.ref m), some (.ref f), a5] H') : tL3 K D [v0, some (.ref p), a2, none, none, a5] H := by
  obtain ⟨f1, f2, f3, f4, f5, f6, f7, f8, f9, f10, f11, f12, f13, f14, f15⟩ := l8_facts
  show tMkN K (tCall (spLlot K) [] E0 (tCons (tC (V.str "abcdefgh")) tNil)) (tNewL K) [v0, some (.ref p), a2, none, none, a5] H (fun x H1 => tMkN K (tNP K "i") (tNP K "a") [v0, some (.ref p), a2, none, none, a5] H1 fun y H2 => ([x, y] : List V).length ≤ sizeLine ∧ ∀ t, H2 t = none → gTup K 2 (gCons (gName 4) (gCons (gName 3) gNil)) (.ref t) [v0, some (.ref p), a2, none, none, a5] (upd H2 t (.tup [x, y])) D.nx)
  refine mkN_read (ga := l8) (lo := []) (fun F' kk => ?_) (fun H2 F' s2 kk => newL_read kk) f4 fun f H1 s1 n1 => ?_
  · refine ⟨.str "abcdefgh", l8, rfl, .inr ⟨"abcdefgh", rfl, rfl⟩, by rw [f2]; decide, f3, fun H' q dx tp s O => kk q H' s ⟨dx, tp, ?_⟩⟩
    rw [f1] at O
    exact O
  · refine mkN_read (ga := iL) (lo := aL) (fun F' kk => np_read f15 kk) (fun H2 F' s2 kk => np_read f14 kk) f7 fun m H2 s2 n2 => ?_
    refine ⟨by show 2 ≤ sizeLine; decide, fun t nt => ?_⟩
    have s3 := same_new (o := .tup [V.ref f, V.ref m]) nt
    exact ⟨t, _, rfl, SqT.of upd_same, rfl, _, _, rfl, _, _, rfl, rfl, k f m _ (s1.trans (s2.trans s3)) (IsNote.same n1 (s2.trans s3)) (IsNote.same n2 s3)⟩
theorem fx_pair {r q : Addr} (hr : H r = some (.tup [.str "fixes", .int 8])) (nq : H q = none) {Q : VK} (k : Q (.bl false) (upd H q (.tup [.str "fixes", .int 8]))) : rNeD K (.ref r) (.ref q) (upd H q (.tup [.str "fixes", .int 8])) Q := by
  have s := same_new (o := .tup [V.str "fixes", V.int 8]) nq
  refine ⟨.tuple [.str "fixes", .int 8], .tuple [.str "fixes", .int 8], .tup (SqT.of (s _ _ hr)) (.cons (.str _) (.cons (.int _) .nil)), .tup (SqT.of upd_same) (.cons (.str _) (.cons (.int _) .nil)), by decide +kernel, by decide +kernel, ?_⟩
  rw [show PyData.eqv (.tuple [.str "fixes", .int 8]) (.tuple [.str "fixes", .int 8]) = true by decide +kernel]
  exact k
theorem read4 (T : KF P w K mg base) {f m : Addr} (hT : Tabs (TL K) H) (nf : IsNote K H f l8 []) (nm : IsNote K H m iL aL) (k : ∀ H', Tabs (TL K) H' → IsNote K H' f l8 [] → D.nx [v0, some (.ref p), a2, some (.ref m), some (.ref f), a5] H') :
    tL4 K D [v0, some (.ref p), a2, some (.ref m), some (.ref f), a5] H := by
  obtain ⟨f1, f2, f3, f4, f5, f6, f7, f8, f9, f10, f11, f12, f13, f14, f15⟩ := l8_facts
  refine ⟨hT, fun H1 e1 T1 => ⟨_, rfl, ?_⟩⟩
  refine mkN_read (ga := iL) (lo := []) (fun F' kk => np_read f15 kk) (fun H2 F' s2 kk => newL_read kk) rfl fun d H2 s2 nd => ?_
  refine manyS_read T (IsNote.same (IsNote.extN nf e1) s2) nd f5 rfl (.inl (by rw [f8]; decide)) fun r H3 s3 hr => ?_
  refine ⟨by show 2 ≤ sizeLine; decide, fun q nq => fx_pair hr nq ⟨false, rfl, if_negB rfl ?_⟩⟩
  have s := s2.trans (s3.trans (same_new (o := .tup [V.str "fixes", V.int 8]) nq))
  have nf' := IsNote.same (IsNote.extN nf e1) s
  refine ⟨_, rfl, _, rfl, add_read T nf' (IsNote.same (IsNote.extN nm e1) s) (.inl rfl) (AddR.good f5 f6 rfl rfl f10 f11 fun x H4 s4 nx => ?_)⟩
  have nx' := nx
  obtain ⟨dx, _, _, NX⟩ := nx'
  refine ⟨x, dx, _, rfl, NX.ob, x, _, _, rfl, nx, fun H5 s5 => ⟨_, rfl, ?_⟩⟩
  rw [f9]
  refine ⟨rfl, false, ?_, if_negB rfl (k H5 (T1.ext (s.trans (s4.trans s5))) (IsNote.same nf' (s4.trans s5)))⟩
  rw [decide_eq_true rfl]
  rfl
theorem read5 (T : KF P w K mg base) {f : Addr} {a3 : Option V} (hT : Tabs (TL K) H) (nf : IsNote K H f l8 []) (k : ∀ H', D.rt (.bl true) H') : tL5 K D [v0, some (.ref p), a2, a3, some (.ref f), a5] H := by
  obtain ⟨f1, f2, f3, f4, f5, f6, f7, f8, f9, f10, f11, f12, f13, f14, f15⟩ := l8_facts
  refine ⟨hT, fun H1 e1 T1 => ⟨_, rfl, neg_read (IsNote.extN nf e1) f12 fun y H2 s2 ny => ?_⟩⟩
  refine mkN_read (ga := []) (lo := iL) (fun F' kk => newL_read kk) (fun H2 F' s2 kk => np_read f15 kk) f13 fun d H3 s3 nd => ?_
  refine manyS_read T (IsNote.same ny s3) nd rfl f5 (.inr (by rw [f8]; decide)) fun r H4 s4 hr => ?_
  exact ⟨by show 2 ≤ sizeLine; decide, fun q nq => pair_read hr (.str _) (.int _) (fun _ _ => .str _) (fun _ _ => .int _) (by decide +kernel) (by decide +kernel) nq (k _)⟩
def spLw (K : PySem.W.Frag) : Sp := fun vs H Q _ => ∃ (a : Addr) (ns : List Int), vs = [.ref a] ∧ SqL K H a (ns.map V.int) ∧ ns.length ≤ 63 ∧ Tabs (TL K) H ∧ ∀ H', Q (.bl true) H'
theorem read_law (T : KF P w K mg base) {Q : VK} {E : XK} {vs : List V} (h : spLw K vs H Q E) : tLw K { nx := fun _ H' => Q .non H', rt := Q } (L2.start ["_law_script", "_law_pen_here", "_law_turn", "_law_more", "_law_full", "_law_odd"] vs) H := by
  obtain ⟨a, ns, rfl, hS, hl, hT, k⟩ := h
  show tLw K { nx := fun _ H' => Q .non H', rt := Q } [some (.ref a), none, none, none, none, none] H
  refine ⟨_, rfl, a, ns, rfl, hS, hl, fun p ce cs H1 N s1 => ?_⟩
  refine loop_read T N (hT.ext s1) fun a2 a5 H2 T2 => ?_
  refine read3 fun f m H3 s3 nf nm => ?_
  refine read4 T (T2.ext s3) nf nm fun H4 T4 nf4 => ?_
  exact read5 T T4 nf4 fun H5 => k H5
end
end K6
set_option Elab.async false
set_option linter.all false
set_option maxRecDepth 100000
set_option maxHeartbeats 1000000
/-! law: its code. -/
namespace K6
open PySem PySem.Spec PyProof.Rows L2 RV EV He EF EI Hd LamX Kw
abbrev sLw : Stmt := top 49
abbrev scLw_N : List Str := ["_law_script", "_law_pen_here", "_law_turn", "_law_more", "_law_full", "_law_odd"]
theorem scLw : FnScope scLw_N ["_law_script"] (defScope sLw) := ⟨rfl, rfl, rfl, by decide +kernel, rfl, by decide +kernel, by decide +kernel⟩
abbrev qLw : Str × Nat := ("law", 49)
section
variable {P : Program} {w : World} {K : PySem.W.Frag} {mg : Str → Option Value} {base : Heap}
theorem c_pen (T : KF P w K mg base) : Callee P w K mg base CX0 1 "_law_pen" ["_law_script"] (spPen K) := by
  obtain ⟨fd, F, g⟩ := T.tops ("_law_pen", 41) (by decide)
  exact ⟨fd, ok_pen F (blt1 T), FunD.bindsN F fun _ _ _ _ _ _ us hl => match us, hl with | [_], _ => rfl, F.kp, g⟩
theorem c_pick (T : KF P w K mg base) : Callee P w K mg base CX0 2 "_law_pick" ["_law_pen_here", "_law_some"] spPick := by
  obtain ⟨fd, F, g⟩ := T.tops ("_law_pick", 43) (by decide)
  obtain ⟨fD, FD, gD⟩ := T.tops ("_law_draw", 42) (by decide)
  exact ⟨fd, ok_pick F (blt1 T) FD gD, FunD.bindsN F fun _ _ _ _ _ _ us hl => match us, hl with | [_, _], _ => rfl, F.kp, g⟩
theorem code_law (T : KF P w K mg base) (TS : TabB base mg (cc K qSm).1 (cc K qSm).2) (TB : TabB base mg (cc K qLw).1 (cc K qLw).2) {f : Addr} {A : Around} {outer : List Env} {s : Shared} {H : Hp} {E : XK} {cdv : Value} (hcd : cdv = .ref (cc K qLw).1) (hr : Room 14 (A.deeper (envOfC "law" (defScope sLw) s.heap.objs.size f cdv))) :
    ∃ t, PSs (cxOf CX0 P w K mg base scLw_N "law" (defScope sLw) f cdv A outer s H E) (defBody sLw) t ∧ t = tLw K := by
  obtain ⟨fP, GP, bP, kP, gP⟩ := c_pen (w := w) T
  obtain ⟨fI, GI, bI, kI, gI⟩ := c_pick (w := w) T
  obtain ⟨fR, GR, bR, kR, gR⟩ := c_row (w := w) T
  obtain ⟨fS, GS, bS, kS, gS⟩ := ok_sum (w := w) T TS
  obtain ⟨fL, GL, bL, kL, gL⟩ := c_llot (w := w) T
  obtain ⟨fn, Gn, bn, mn, gn⟩ := mk_note (w := w) T
  obtain ⟨_, ft, Ft⟩ := T.note ("__str__", 2) (by decide)
  have bt : L2.Binds K ft ["self"] [] := FunD.bindsN Ft fun _ _ _ _ _ _ us hl => match us, hl with | [_], _ => rfl
  have Gt := ok_noStr T Ft
  have hu := hr.units
  have nd := scLw.nd
  have hm : ((cc K qLw).2, qOf qLw) ∈ TL K := tl_mem (by decide)
  have hu2 := tl_one T (q := qLw) (by decide)
  refine ⟨_, PSs.nox
    (pss_cons (ps_set (i := 1) nd rfl (.inl rfl) (pe_call (E := E0) GP (hr.mono (by decide)) (by rfl) gP kP bP .nil pass0 (pa_cons (pv 0) pa_nil)))
    (pss_cons (ps_for PassesOwn.never rfl (pi_range1 (by rfl) (T.fr "range" (by decide)) (pa_cons pe_int pa_nil)) (pg_name (i := 2) nd rfl (.inl rfl))
      (pss_cons (ps_if (PW.pt (pw_or (pt_not (pt_val (pe_call (E := E0) GR (hr.mono (by decide)) (by rfl) gR kR bR .nil pass0 (pa_cons (pv 1) pa_nil)))) (pw_or1 (pt_not (pt_val (pe_call (E := E0) GS (hr.mono (by decide)) (by rfl) gS kS bS .nil pass0 (pa_cons (pv 1) pa_nil))))))) (pss_one (ps_ret pe_bl)) pss_nil)
      (pss_cons (ps_set (i := 5) nd rfl (.inr rfl) (pe_call (E := E0) GI (hr.mono (by decide)) (by rfl) gI kI bI .nil pass0 (pa_cons (pv 1)
          (pa_cons (pe_lst (pa_cons pe_non (pa_cons pe_int (pa_cons pe_str (pa_cons (Oo.pe_newP (E := E0) T.mko (ok_li T) (hr.mono (by decide)) (by rfl) T.go passL (pa_cons pe_str pa_nil)) (pa_cons (pe_tup pa_nil) (pa_cons (pe_lst pa_nil) pa_nil))))))) pa_nil))))
      (pss_one (ps_if (pt_cmpR (op_neD hu) (pe_heard (k := 10) (t := fun E' => tOp (Oo.rOwn2 K (gNo K) (Oo.okAdd K (gNo K)) (spAdd K) E') (tMake (gNo K) (spNoI K) [] E0 (tCons (Oo.tNewP (gO K) (spStar (spLi K)) E0 (tCons (tC (V.str "a")) tNil)) (tCons (tNewL K) tNil))) (tVar 5)) T TB hcd hm hu2 (by rfl) (hr.mono (by decide)) (lamS_by (by show lamSB (defScope sLw) _ = true; decide +kernel)) rfl (fun _ _ _ _ _ => rfl)
          (fun A2 out2 s2 H2 E2 f2 c2 hr2 => pe_op (Oo.op_add (E := E2) (opc_add T) (r_add T) (hr2.mono (by decide)) (passes_call (takes_of rfl rfl rfl rfl) fun _ _ _ _ h => h))
            (pe_make (E := E0) mn Gn (hr2.mono (by decide)) (by rfl) gn bn .nil passL (pa_cons (Oo.pe_newP (E := E0) T.mko (ok_li T) (hr2.mono (by decide)) (by rfl) T.go passL (pa_cons pe_str pa_nil)) (pa_cons (Oo.pe_new0 (E := E0) T.mko (ok_li T) (hr2.mono (by decide)) (by rfl) T.go passL) pa_nil))) (pv 5)))
          (pe_tup (pa_cons pe_str (pa_cons (pe_callB Oo.call_repr_txt (by rfl) (T.fr "repr" (by decide)) PyProof.Rows.boot_repr (pa_cons pe_str pa_nil)) pa_nil))) (nomark _)) (pss_one (ps_ret pe_bl)) pss_nil)))))
    (pss_cons (ps_asg (pe_tup (pa_cons (pe_make (E := E0) mn Gn (hr.mono (by decide)) (by rfl) gn bn .nil passL (pa_cons (pe_call (E := E0) GL (hr.mono (by decide)) (by rfl) gL kL bL .nil pass0 (pa_cons pe_str pa_nil)) (pa_cons (Oo.pe_new0 (E := E0) T.mko (ok_li T) (hr.mono (by decide)) (by rfl) T.go passL) pa_nil))) (pa_cons (pe_make (E := E0) mn Gn (hr.mono (by decide)) (by rfl) gn bn .nil passL (pa_cons (Oo.pe_newP (E := E0) T.mko (ok_li T) (hr.mono (by decide)) (by rfl) T.go passL (pa_cons pe_str pa_nil)) (pa_cons (Oo.pe_newP (E := E0) T.mko (ok_li T) (hr.mono (by decide)) (by rfl) T.go passL (pa_cons pe_str pa_nil)) pa_nil))) pa_nil))) (pg_tup (by rfl) (pgs_cons (pg_name (i := 4) nd rfl (.inr rfl)) (pgs_cons (pg_name (i := 3) nd rfl (.inl rfl)) pgs_nil))))
    (pss_cons (ps_if (PW.pt (pw_or (pt_cmpR (op_neD hu) (pe_heard (k := 10) (t := fun E' => tOp (Oo.rOwn2 K (gNo K) (Oo.okAdd K (gNo K)) (spAdd K) E') (tVar 4) (tMake (gNo K) (spNoI K) [] E0 (tCons (Oo.tNewP (gO K) (spStar (spLi K)) E0 (tCons (tC (V.str "i")) tNil)) (tCons (tNewL K) tNil)))) T TB hcd hm hu2 (by rfl) (hr.mono (by decide)) (lamS_by (by show lamSB (defScope sLw) _ = true; decide +kernel)) rfl (fun _ _ _ _ _ => rfl)
          (fun A2 out2 s2 H2 E2 f2 c2 hr2 => pe_op (Oo.op_add (E := E2) (opc_add T) (r_add T) (hr2.mono (by decide)) (passes_call (takes_of rfl rfl rfl rfl) fun _ _ _ _ h => h)) (pv 4) (pe_make (E := E0) mn Gn (hr2.mono (by decide)) (by rfl) gn bn .nil passL (pa_cons (Oo.pe_newP (E := E0) T.mko (ok_li T) (hr2.mono (by decide)) (by rfl) T.go passL (pa_cons pe_str pa_nil)) (pa_cons (Oo.pe_new0 (E := E0) T.mko (ok_li T) (hr2.mono (by decide)) (by rfl) T.go passL) pa_nil))))) (pe_tup (pa_cons pe_str (pa_cons pe_int pa_nil))) (nomark _))
        (pw_or1 (pt_cmpR op_ne (pe_callTy (Oo.call_strO (E := E0) (nm T ("__str__", 2) (by decide)) Gt (hr.mono (by decide)) bt pass0) (by rfl) (T.fr "str" (by decide)) boot_T (pa_cons (pe_op (Oo.op_add (E := E0) (opc_add T) (r_add T) (hr.mono (by decide)) passL) (pv 4) (pv 3)) pa_nil)) pe_str (nomark _))))) (pss_one (ps_ret pe_bl)) pss_nil)
    (pss_one (ps_ret (pe_cmpR (op_eqD hu) (pe_heard (k := 10) (t := fun E' => tOp (Oo.rOwn2 K (gNo K) (Oo.okAdd K (gNo K)) (spAdd K) E') (tNgN K (tVar 4)) (tMake (gNo K) (spNoI K) [] E0 (tCons (tNewL K) (tCons (Oo.tNewP (gO K) (spStar (spLi K)) E0 (tCons (tC (V.str "i")) tNil)) tNil)))) T TB hcd hm hu2 (by rfl) (hr.mono (by decide)) (lamS_by (by show lamSB (defScope sLw) _ = true; decide +kernel)) rfl (fun _ _ _ _ _ => rfl)
          (fun A2 out2 s2 H2 E2 f2 c2 hr2 => pe_op (Oo.op_add (E := E2) (opc_add T) (r_add T) (hr2.mono (by decide)) (passes_call (takes_of rfl rfl rfl rfl) fun _ _ _ _ h => h)) (pe_un (Oo.un_negO (E := E0) (nm T ("__neg__", 5) (by decide)) (r_neg T) (hr2.mono (by decide)) passL) (pv 4)) (pe_make (E := E0) mn Gn (hr2.mono (by decide)) (by rfl) gn bn .nil passL (pa_cons (Oo.pe_new0 (E := E0) T.mko (ok_li T) (hr2.mono (by decide)) (by rfl) T.go passL) (pa_cons (Oo.pe_newP (E := E0) T.mko (ok_li T) (hr2.mono (by decide)) (by rfl) T.go passL (pa_cons pe_str pa_nil)) pa_nil))))) (pe_tup (pa_cons pe_str (pa_cons pe_int pa_nil))) (nomark _)))))))), ?_⟩
  rfl
theorem ok_law (T : KF P w K mg base) (TS : TabB base mg (cc K qSm).1 (cc K qSm).2) (TB : TabB base mg (cc K qLw).1 (cc K qLw).2) {fd : FuncData} (F : FnP K "law" sLw (ga K "law") fd) : FnOk P w K mg base CX0 15 (ga K "law") fd ["_law_script"] (spLw K) := by
  obtain ⟨oc, od, dV, kV, doc, pm, an, cdv, ct, osl, rfl, lk, hcd, _, _⟩ := F.ex
  obtain ⟨c, rfl⟩ := He.codeIn_ref hcd
  have ec : (cc K qLw).1 = c := He.codeOf_eq (p := ("law", none)) lk rfl
  refine L2.fn_of lk hcd scLw (fun vs H Q E h => ?_) (fun A outer s H vs Q E hr h => ?_)
  · obtain ⟨a, ns, rfl, _⟩ := h
    rfl
  · obtain ⟨t, ht, rfl⟩ := code_law (E := E) T TS TB (by rw [ec]) hr
    exact ⟨_, ht, read_law T (E := E) h⟩
end
end K6
set_option Elab.async false
set_option linter.all false
set_option maxRecDepth 100000
set_option maxHeartbeats 0
namespace K6
open PySem PySem.Spec PyProof.Rows L2 RV EV He EF EI Hd LamX Kw
/-- the tables of the defs that make lambdas -/
def csK (K : PySem.W.Frag) : List (Addr × Addr) := tabN.map fun p => He.cT K p
theorem lam_tab : ∀ q ∈ lamN, ((q.1, none) : Defn) ∈ tabN := by decide
theorem tabs_of {K : PySem.W.Frag} {H : Hp} (h : ∀ p ∈ csK K, H p.2 = some (.tbl #[])) : Tabs (TL K) H := by
  intro p hp
  obtain ⟨q, hq, rfl⟩ := List.mem_map.mp hp
  exact TabS.nil (h (cc K q) (List.mem_map_of_mem (f := fun p => He.cT K p) (lam_tab q hq)))
theorem cs_mem {K : PySem.W.Frag} {q : Str × Nat} (h : q ∈ lamN) : cc K q ∈ csK K := List.mem_map_of_mem (f := fun p => He.cT K p) (lam_tab q h)
end K6
open PySem PySem.W PySem.Calls PyProof.Rows
theorem PySem.Challenge.cw_editionlines_k62_whole_notes_of_rows_of_holds : PySem.Challenge.rw_editionlines_k62_whole_notes_of_rows_of.Holds := by
  w_on; o_law
  refine HandSHeadRun.head_any (r := OpenLaw.row PySem.Challenge.rw_editionlines_k62_whole_notes_of_rows_of) (q := view (OpenLaw.row PySem.Challenge.rw_editionlines_k62_whole_notes_of_rows_of).prog [49]) (H := K6.hkS) (ob := K6.obT) (M := 9500) (loose := K6.loose) (d := HandSHeadRun.topDef (OpenLaw.row PySem.Challenge.rw_editionlines_k62_whole_notes_of_rows_of).prog 49) (kwd := []) K6.obT_eq
    (by kernel_rfl) (fun s => by kernel_rfl) K6.runS (by kernel_rfl) (by kernel_rfl) (by kernel_rfl) (by rfl) (by first | assumption | decide +kernel) (by decide +kernel) ⟨rfl, rfl, rfl, rfl, rfl, by decide +kernel⟩ ?hw ?hc
  case hw => w_witness2
  case hc =>
    refine LamX.walk_ofTsE (l := PySem.Challenge.rw_editionlines_k62_whole_notes_of_rows_of) (n := 63) (k := 15) (CX := fun _ => L2.CX0) (x := "_law_script") rfl (by decide) (by kernel_rfl) ⟨rfl, by decide, by decide⟩ ?F (fun _ _ _ _ _ z => z)
    intro w mg fa h Y G hmg0
    obtain ⟨K, KX, c⟩ := Y
    have hmg : mg ("law" : PySem.Str) = some (.ref fa) := by
      have e : (HandSHeadRun.topDef (OpenLaw.row PySem.Challenge.rw_editionlines_k62_whole_notes_of_rows_of).prog 49).name = ("law" : PySem.Str) := by kernel_rfl
      rw [← e]
      exact hmg0
    obtain ⟨fd, F, g⟩ := (K6.kf (P := (PySem.Challenge.rw_editionlines_k62_whole_notes_of_rows_of).prog) KX G c h).tops ("law", 49) (by decide)
    cases hmg.symm.trans g
    have b := L2.FunD.bindsA (ps := ["_law_script"]) F fun _ _ _ _ _ _ us hl => match us, hl with | [_], _ => rfl
    have at_ : ∀ p ∈ K6.csK K, ∃ q ∈ K6.tabN, p = He.cT K q := fun p hp => by
      obtain ⟨q, hq, rfl⟩ := List.mem_map.mp hp
      exact ⟨q, hq, rfl⟩
    refine ⟨K, KX, fd, K6.csK K, K6.spLw K, fun p hp => ?_, fun p hp => ?_, fun p hp => ?_, fun s u => b s [u] rfl, fun H a ns hl _ hH hS => ⟨a, ns, rfl, hS, hl, K6.tabs_of hH, fun _ => rfl⟩, fun base KB GB hb => ?_⟩
    · obtain ⟨q, hq, rfl⟩ := at_ p hp
      exact c.x.empty q hq
    · obtain ⟨q, hq, rfl⟩ := at_ p hp
      exact c.x.out q hq
    · obtain ⟨q, hq, rfl⟩ := at_ p hp
      exact PySem.W.codeHd_of_K KX (c.x.hd q hq)
    · exact K6.ok_law (K6.kf KX G c base) (hb _ (K6.cs_mem (by decide))) (hb _ (K6.cs_mem (by decide))) F
