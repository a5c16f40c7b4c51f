import PyProof.Rows.All
import Wide.All
import OpenK.AllK
import Wide.FinOn
import KE.KStateDown
import HandS.ForMost
import HandS.Defaults
import HandS.Head0
import HandS.Head1
import HandS.Head2
import HandS.HeadEnd
import HandS.HeadHook1
import HandS.HeadHook2
import PySem.Challenge.RW_editionlines_k08_deeds_made
import HandS.Exc
import HandS.ExcOwn
import HandS.ExcInit
import KE.KExcIs
import HandS.ExcValue
import HandS.ExcField
import HandS.IsInst
import HandS.ExcIs
import HandS.MakeKw
import HandS.MakeKwOnly
import HandS.Property
import HandS.Lambda
import HandS.EndTab
import HandS.HeadHook3
import HandS.HeadHook4
import HandS.HeadWalk
import HandS.HeadNt
import PyProof.ReprRoads
import HandS.TupMul
import HandS.Iter
import PyProof.Rows.FactsN_isinstance
import HandS.Walk
import HandS.Text
import PyProof.Rows.SeqGen
import HandS.More
import HandS.Star
import HandS.Flow
import HandS.CallLocal
import HandS.StrMore
import PyProof.StrOps2
import HandS.TupLe
import KE.KCallOwn
import KE.KFmtOwn
import HandS.ClsMeth
import HandS.TupAny
import OpenK.KOps
import OpenK.KMeth
import PyProof.LookupFast
import PyProof.InstEq
import KE.KStar
import HandS.ForExc
import HandS.TryMany
import HandS.TryOnly
import HandS.Nested
import HandS.Style
import HandS.MethStar
import HandS.New0
import HandS.RaiseMore
import PyProof.StrLawsRepr
import PyProof.Rows.StrRevDown
import PyProof.Rows.StrMeet
import HandS.DictComp
import HandS.Sort
import HandS.WordsDict
import KE.KOwnIter
import PyProof.TupleIter
import PyProof.Rows.Range3
import HandS.Small
import HandS.IterNext
import HandS.List
import HandS.SetFor
import HandS.Strs
import HandS.NoneIn
import PyProof.WalksMore
import PyProof.CollectIter
import HandS.Conv
import PyProof.Rows.SortStr
import HandS.Ends
import HandS.Words
import HandS.WordsExc
set_option Elab.async false
set_option linter.all false
set_option maxRecDepth 100000
set_option maxHeartbeats 0
namespace K8
open PySem PySem.Spec PyProof.Rows L2
abbrev prog : Program := PySem.Challenge.pw_editionlines_k08_deeds_made
def top (i : Nat) : Stmt := prog.main.body.getD i (.Pass ⟨0, 0, 0, 0⟩)
end K8
set_option Elab.async false
set_option linter.all false
set_option maxRecDepth 100000
set_option maxHeartbeats 4000000
/-! An own exception class over ValueError, called with keywords: at the library's level. -/
namespace EKw
open PySem PySem.HandSPX Builtin Builtin.ObjectAttr
section
variable {M : Model} {prog : Program} {w : World} {A : Around} {E : Value → Shared → Prop}
  {R : Result → Shared → Prop} {hp : Heap} {gs : Array GenState} {dr : Drawn} {tk : Nat} {os : OsState}
variable {nm q : Str} {C N : Addr} {bs bm : List Value} {hdct : Bool} {sn : List Str} {sub : List Value}
  {ab : Bool} {col : Option Bool} {dd : Option Addr} {k0 k1 k2 k3 k5 : Option Value}
abbrev clsO (nm q : Str) (C N : Addr) (bs bm : List Value) (hdct : Bool) (sn : List Str) (sub : List Value)
    (ab : Bool) (col : Option Bool) (dd : Option Addr) (k0 k1 k2 k3 k5 : Option Value) : Obj :=
  excClassObj nm q C N bs bm hdct sn sub ab col dd k0 k1 k2 k3 k5 "ValueError.__new__"
theorem checkNewKw (hbm : refsVE bm = true) {us : List Value} {kw : List (Str × Value)} {Q : Unit → Shared → Prop}
    (hC : hp.get? C = some (clsO nm q C N bs bm hdct sn sub ab col dd k0 k1 k2 k3 k5)) (hq : Q () ⟨hp, gs, dr, tk, os⟩) :
    wpAny M A (checkBuiltinCall "ValueError.__new__" ⟨.ref C :: us, kw⟩) Q E ⟨hp, gs, dr, tk, os⟩ := by
  have e1 : (Value.ref C :: bm).contains (.type "ValueError") = true := by
    rw [List.contains_cons, refsVE_contains _ bm hbm]; simp
  have e2 := F.excBase_ValueError.noStar
  simp only [checkBuiltinCall, F.excBase_ValueError.newKind, F.excBase_ValueError.newSplit, F.excBase_ValueError.newRow]
  repeat (first
    | refine wpAny_loadPart_at hC ?_
    | (refine wpAny_isSubtype_exc hC ?_; rw [e1])
    | refine wpAny_staticBase_exc hC ?_
    | refine wpAny_madeBy_exc hC ?_
    | simp only [bne_self_eq_false, Bool.false_eq_true, if_false]
    | wp_step)
  all_goals exact hq
theorem newKw (hbm : refsVE bm = true) {us : List Value} {kw : List (Str × Value)}
    (hC : hp.get? C = some (clsO nm q C N bs bm hdct sn sub ab col dd k0 k1 k2 k3 k5)) (hz : us.length ≤ sizeLine)
    (hq : R (.ok (.ret (.ref (hp.objs.size + 1)))) ⟨(hp.push (W.kdv_tup us)).push (excO C hp.objs.size), gs, dr, tk, os⟩) :
    codeAny (model prog w) A (.builtin "ValueError.__new__" ⟨.ref C :: us, kw⟩) R ⟨hp, gs, dr, tk, os⟩ := by
  have e0 := F.excBase_ValueError.ends
  have has : ∀ X : String, (Value.ref C :: bm).contains (.type X) = veTail.contains (.type X) := fun X => by
    rw [List.contains_cons, refsVE_contains _ bm hbm]
    rfl
  have e1 := (has "ValueError").trans (by decide : _ = true)
  have e2 := (has "AttributeError").trans (by decide : _ = false)
  have e3 := (has "NameError").trans (by decide : _ = false)
  refine codeAny_builtinAt F.excBase_ValueError.entry ?_
  unfold Builtin.«BaseException.__new__»
  refine wpAt_bind ?_
  show wpAt _ _ _ (stack >>= _) _ _ _
  refine wpAt_bind (wpAt_stack fun p below => wpAt_of_wpAny ?_)
  wp_walk
  refine wpAt_of_wpAny ?_
  rw [F.excBase_ValueError.owner]
  repeat (first
    | with_reducible refine wpAny_madeHere_exc F.excBase_ValueError.canon hC ?_
    | with_reducible refine wpAny_loadPart_at hC ?_
    | (with_reducible refine wpAny_isSubtype_exc hC ?_; first | rw [e1] | rw [e2] | rw [e3])
    | wp_step)
  show R _ _
  rw [Heap.size_push]
  exact hq
theorem typeCallKw (hbm : refsVE bm = true) {us : List Value} {kw : List (Str × Value)} {fI : Addr} {Q : Fin → Shared → Prop}
    (hC : hp.get? C = some (clsO nm q C N bs bm hdct sn sub ab col dd k0 k1 k2 k3 k5))
    (hi : W.Looks (model prog w) hp (typeLookup (.ref C) "__init__") (some (.ref fI)))
    (hb : ∀ self, W.Looks (model prog w) hp (bindSpecial (.ref fI) self) (.ref fI, [self])) (hz : us.length ≤ sizeLine)
    (hq : codeAny (model prog w) A (.call (.ref fI) ⟨.ref (hp.objs.size + 1) :: us, kw⟩)
      (fun r s' => match r with
        | .ok (.ret v) => v = .none ∧ Q (.done (.ret (.ref (hp.objs.size + 1)))) s'
        | .ok _ => False
        | .error e => E e s')
      ⟨(hp.push (W.kdv_tup us)).push (excO C hp.objs.size), gs, dr, tk, os⟩) :
    wpAny (model prog w) A (Builtin.«type.__call__» ⟨.ref C :: us, kw⟩) Q E ⟨hp, gs, dr, tk, os⟩ := by
  repeat (first
    | with_reducible refine wpAny_loadPart_at hC ?_
    | with_reducible refine wpAny_madeBy_exc hC ?_
    | wp_step)
  refine codeAny_call_builtin_code (Code.quiet_builtin _ F.excBase_ValueError.quiet) (checkNewKw hbm hC ?_)
  refine newKw hbm hC hz ?_
  show wpAny _ _ _ _ _ _
  have kk : ∀ b o, hp.get? b = some o → ((hp.push (W.kdv_tup us)).push (excO C hp.objs.size)).get? b = some o :=
    fun b o e => Heap.get?_push_of_some _ (Heap.get?_push_of_some _ e)
  have hC2 := kk _ _ hC
  have hnew : ((hp.push (W.kdv_tup us)).push (excO C hp.objs.size)).get? (hp.objs.size + 1) = some (excO C hp.objs.size) := by
    heap_get
  have hself : (Value.ref C :: bm).contains (.ref C) = true := by simp
  have i2 := hi.keeps kk
  have b2 := (hb (.ref (hp.objs.size + 1))).keeps kk
  unfold isInstance
  repeat (first
    | with_reducible refine wpAny_loadPart_at hnew ?_
    | (with_reducible refine wpAny_isSubtype_exc hC2 ?_; rw [hself])
    | wp_step)
  show wpAny _ _ (typeLookup (.ref C) _) _ _ _
  refine i2.at (wpAny_holding (wpAny_bind (b2.at ?_)))
  refine wpAny_bind (wpAny_call (codeAny_mono hq fun r s' z => ?_))
  rcases r with e | (v | _ | _ | _) <;> first
    | exact z
    | exact z.elim
    | (obtain ⟨rfl, z⟩ := z; first
        | exact wpAny_pure (wpAny_pure z)
        | (wp_walk; exact z))
theorem callKw (hbm : refsVE bm = true) {us : List Value} {kw : List (Str × Value)} {fI : Addr}
    (hC : hp.get? C = some (clsO nm q C N bs bm hdct sn sub ab col dd k0 k1 k2 k3 k5))
    (hi : W.Looks (model prog w) hp (typeLookup (.ref C) "__init__") (some (.ref fI)))
    (hb : ∀ self, W.Looks (model prog w) hp (bindSpecial (.ref fI) self) (.ref fI, [self])) (hz : us.length ≤ sizeLine)
    (hq : codeAny (model prog w) (A.under (.builtin "type.__call__" ⟨.ref C :: us, kw⟩)) (.call (.ref fI) ⟨.ref (hp.objs.size + 1) :: us, kw⟩)
      (W.InitBack (hp.objs.size + 1) R) ⟨(hp.push (W.kdv_tup us)).push (excO C hp.objs.size), gs, dr, tk, os⟩) :
    codeAny (model prog w) A (.call (.ref C) ⟨us, kw⟩) R ⟨hp, gs, dr, tk, os⟩ := by
  have f1 := tc_lookup
  have f2 := tc_bind (.ref C)
  have hTy : (⟨hp, gs, dr, tk, os⟩ : Shared).TypeIs (.ref C) "type" := ⟨_, hC, rfl⟩
  refine codeAny_of_tree ?_
  show wpAny _ _ (callAny (.ref C) _) _ _ _
  repeat (any_goals (first
    | assumption
    | with_reducible refine wpAny_loadPart_at hC ?_
    | wp_step))
  refine ⟨rfl, ?_⟩
  refine codeAny_call_builtin_at (Code.quiet_builtin _ (by decide +kernel)) entry_typeCall
    (wpAny_check_type_call_sub hC (typeCallKw hbm hC hi hb hz ?_))
  refine codeAny_mono hq fun r s' z => ?_
  rcases r with e | (v | _ | _ | _) <;> exact z
end
end EKw
set_option Elab.async false
set_option linter.all false
set_option maxRecDepth 100000
set_option maxHeartbeats 4000000
/-! Own exceptions (over ValueError, with an __init__ of their own) held as values: made, their fields read, asked by isinstance. -/
namespace EV
open PySem PySem.Spec PyProof.Rows L2
/-- an error of the class at C stands at a; its dict at d holds fs -/
structure ErrAt (H : Hp) (a C d : Addr) (fs : List (Str × V)) : Prop where
  ob : H a = some (exo a C (some d))
  dc : H d = some (exd d fs)
/-- C(..), the class's own __init__ keeping sp, handed the values vs -/
def tErr (C : Addr) (sp : Sp) (gV : List V → List V) (E : XK) (t : TA) : TE := fun σ H Q => t σ H fun vs H1 => vs.length ≤ 1000 ∧
  ∀ a, H1 a = none → sp (.ref a :: gV vs) (upd H1 a (exo a C none)) (fun v H2 => v = .non ∧ Q (.ref a) H2) E
section
variable {X : Cx} {CX : CXT} {k n : Nat} {fI C : Addr} {fd : FuncData} {ps ks : List Str} {sp : Sp} {E : XK} {x : Str}
  {p pos : Pos} {e : Expr} {es : List Expr} {kws : List Keyword} {t tk : TA}
theorem run_err {pins : List (Addr × Obj)} {σ : L2.St} {H : Hp} {s : Shared} {Q : VK} {us bs : List Value} {kw : List (Str × Value)} {vs : List V}
    (T : OexC X.K C) (iC : PySem.W.findIn X.K (.ref C) "__init__" = some (some (.ref fI)))
    (tI : PySem.W.typeIn X.K (.ref fI) = some (.type "function"))
    (F1 : FnOk X.prog X.w X.K X.mg X.base CX k fI fd ps sp) (hr : Room (k + 1) X.A)
    (hb : ∀ (s' : Shared) (a : Addr), X.K.In s'.heap → BindsTo s' fd ⟨.ref a :: us, kw⟩ (ps.zip (.ref a :: bs)))
    (hx : Passes CX X E) (I : Inv X pins σ H s) (r : Vals vs bs) (hz : us.length ≤ sizeLine)
    (h : ∀ a, H a = none → sp (.ref a :: vs) (upd H a (exo a C none)) (fun v H2 => v = .non ∧ Q (.ref a) H2) E) :
    wpAny (model X.prog X.w) X.A (call (.ref C) us kw) (EP X pins σ Q) X.xe s := by
  obtain ⟨nm, q, N, bbs, bm, sn, sub, ab, col, dd, k0, k1, k2, k3, k5, hC, hbm⟩ := T.cls
  obtain ⟨hp, g, dr, tk, os⟩ := s
  have hsz : hp.objs.size ≤ hp.objs.size + 1 := Nat.le_succ _
  have hq := h (hp.objs.size + 1) (I.hok.fresh hsz)
  have kk : ∀ b o, hp.get? b = some o → ((hp.push (PySem.W.kdv_tup us)).push (PySem.HandSPX.excO C hp.objs.size)).get? b = some o :=
    fun b o z => Heap.get?_push_of_some _ (Heap.get?_push_of_some _ z)
  have hget : ((hp.push (PySem.W.kdv_tup us)).push (PySem.HandSPX.excO C hp.objs.size)).get? (hp.objs.size + 1) = some (PySem.HandSPX.excO C hp.objs.size) := by
    heap_get
  have I2 := I.laid (t' := tk) (a := hp.objs.size + 1) (o := exo (hp.objs.size + 1) C none) kk hsz (exo_ok hget)
  have r2 : Vals (V.ref (hp.objs.size + 1) :: vs) (Value.ref (hp.objs.size + 1) :: bs) := .cons rfl r
  refine wpAny_call (EKw.callKw hbm (I.kIn _ _ hC) (PySem.W.looks_findIn I.kIn iC) (fun self => PySem.W.bind_fn I.kIn self tI) hz
    (codeAny_mono (F1.run _ X.stack _ _ ⟨Value.ref (hp.objs.size + 1) :: us, kw⟩ _ _ _ E (hr.make C us kw)
      (I2.env0.make C us kw) (hb _ _ I2.kIn) r2 hq) fun r s' hq' => ?_))
  cases r with
  | error er => exact hx pins σ _ _ er s' I2 hq'
  | ok fl =>
    cases fl with
    | ret u =>
      obtain ⟨v, H', I3, rv, ev, q3⟩ := I2.after hq'
      subst ev
      exact ⟨rv, V.ref (hp.objs.size + 1), H', I3, rfl, q3⟩
    | _ => exact False.elim hq'
/-- C(e, ..) -/
theorem pe_err (T : OexC X.K C) (iC : PySem.W.findIn X.K (.ref C) "__init__" = some (some (.ref fI)))
    (tI : PySem.W.typeIn X.K (.ref fI) = some (.type "function"))
    (F1 : FnOk X.prog X.w X.K X.mg X.base CX k fI fd ps sp) (hr : Room (k + 1) X.A) (hb : Binds X.K fd ps []) (hx : Passes CX X E)
    (hg : Gl X x) (hm : X.mg x = some (.ref C)) (ha : PA X (e :: es) t)
    (hdb : (x == ("__debug__" : Str)) = false := by decide)
    (he : starEach (e :: es) X.env = (false, eval e X.env) :: starEach es X.env := by rfl)
    (hpl : (backTo pos (starEach es X.env)).any (·.1) = false := by rfl) :
    PE X (.Call (.Name x p) (e :: es) [] pos) (tErr C sp (fun vs => vs) E t) := by
  refine ⟨fun pins s σ H Q I h => ?_⟩
  refine wpAny_Call_Name_kw (ld_glob I hg hm ?_ hdb)
  refine PySem.W.callWith_K (h₀ := X.base) I.ok.mod.kin T.kC (thn (ha.run pos pins s σ H _ I h) fun us s1 ⟨vs, H1, I1, r1, hz, q1⟩ => ⟨I1.kIn, ?_⟩) he hpl
  show wpAny _ _ (call (.ref C) us) _ _ _
  have hl : vs.length = us.length := r1.length
  refine run_err T iC tI F1 hr (fun s' a X' => ?_) hx I1 r1 ?_ q1
  · have hn := F1.len _ _ _ _ (q1 _ (I1.hok.fresh (Nat.le_refl _)))
    have z := hb s' (.ref a :: us) X' (by
      rw [List.append_nil, ← hn, List.length_cons, List.length_cons, hl])
    rw [List.append_nil] at z
    exact z
  · rw [← hl, sizeLine_eq]
    omega
/-- C(f = e, ..), no argument by position -/
theorem pe_errK {g : List Value → List Value → List Value} {gV : List V → List V → List V} (T : OexC X.K C)
    (iC : PySem.W.findIn X.K (.ref C) "__init__" = some (some (.ref fI)))
    (tI : PySem.W.typeIn X.K (.ref fI) = some (.type "function"))
    (F1 : FnOk X.prog X.w X.K X.mg X.base CX k fI fd ps sp) (hr : Room (k + 1) X.A) (hx : Passes CX X E)
    {gk : List Value → List Value} {gv : List V → List V}
    (hb : ∀ (s' : Shared) (a : Addr) (ws : List Value), X.K.In s'.heap → ws.length = ks.length → BindsTo s' fd ⟨[.ref a], ks.zip ws⟩ (ps.zip (.ref a :: gk ws)))
    (hgv : ∀ {zs : List V} {ws : List Value}, zs.length = ks.length → Vals zs ws → Vals (gv zs) (gk ws))
    (hg : Gl X x) (hm : X.mg x = some (.ref C)) (hkw : PK X kws tk)
    (hall : (backToKw pos (keywordEach kws X.env)).all (·.1.isSome) = true := by rfl)
    (hks : (backToKw pos (keywordEach kws X.env)).filterMap (·.1) = ks := by rfl)
    (hdb : (x == ("__debug__" : Str)) = false := by decide)
    (hpl : ((backTo pos (starEach [] X.env)).any (·.1) || (backToKw pos (keywordEach kws X.env)).any (·.1.isNone)) = false := by rfl) :
    PE X (.Call (.Name x p) [] kws pos) (fun σ H Q => tk σ H fun zs H1 => zs.length = ks.length ∧
      ∀ a, H1 a = none → sp (.ref a :: gv zs) (upd H1 a (exo a C none)) (fun v H2 => v = .non ∧ Q (.ref a) H2) E) := by
  refine ⟨fun pins s σ H Q I h => ?_⟩
  refine wpAny_Call_Name_kw (ld_glob I hg hm ?_ hdb)
  refine PySem.W.callWith_KW0 (h₀ := X.base) I.ok.mod.kin T.kC hall ?_ hpl
  refine thn (hkw.run pos pins s σ H _ I h) fun ws s2 ⟨zs, H2, I2, rz, l2, q2⟩ => ⟨I2.kIn, ?_⟩
  rw [hks]
  have hl : zs.length = ws.length := rz.length
  exact run_err T iC tI F1 hr (fun s' a X' => hb s' a ws X' (by rw [← hl, l2])) hx I2 (hgv l2 rz) (Nat.zero_le _) q2
end
/-! ### a field is read -/
def tEf (K : PySem.W.Frag) (te : TE) (f : Str) : TE := fun σ H Q => te σ H fun x H1 => ∃ a C d fs v, x = .ref a ∧ ErrAt H1 a C d fs ∧ XfC K C ∧
  PySem.W.findIn K (.ref C) f = some none ∧ fs.lookup f = some v ∧ Q v H1
theorem inst_of {X : Cx} {pins : List (Addr × Obj)} {σ : L2.St} {H : Hp} {s : Shared} {a C d : Addr} {fs : List (Str × V)} (I : Inv X pins σ H s) (r : ErrAt H a C d fs) :
    ∃ (ox od : Obj) (mA : Str → Option Value), PySem.W.InstAt s.heap a ox C (some od) ∧ s.heap.get? d = some od ∧ (∀ n, PySem.W.lookIn n od = some (mA n)) ∧ ∀ n, RelO (fs.lookup n) (mA n) := by
  obtain ⟨t1, ha⟩ := exo_at I.hok r.ob
  obtain ⟨mA, hns, rel⟩ := exd_at I.hok r.dc
  obtain ⟨od, ho, hl⟩ := lookIn_ns hns
  exact ⟨_, od, mA, ⟨ha, rfl, rfl, ho⟩, ho, hl, rel⟩
theorem pe_ef {X : Cx} {e : Expr} {te : TE} {pos : Pos} {f : Str} (he : PE X e te) (hb : attributeBase e f X.env (eval e X.env) = eval e X.env := by rfl) :
    PE X (.Attribute e f pos) (tEf X.K te f) := by
  refine ⟨fun pins s σ H Q I h => ?_⟩
  refine attr_of hb (thn (he.run pins s σ H _ I h) fun u s1 hh => ?_)
  obtain ⟨x, H1, I1, rx, a, C, d, fs, v, ex, r, T, hno, l, q⟩ := hh
  subst ex
  obtain rfl : u = Value.ref a := rx
  obtain ⟨ox, od, mA, J, ho, hl, rel⟩ := inst_of I1 r
  obtain ⟨w, hw, rw'⟩ := RelO.some_of (v := v) (o := mA f) (by rw [← l]; exact rel f)
  exact HandSPX.exc_get I1.kIn J T.ga T.gg T.exC (PySem.W.findObj_own T.hdC hno rfl (by rw [hl, hw])) (handed_of rw') ⟨v, H1, I1.tok _, rw', q⟩
/-! ### isinstance -/
/-- an error of the class at C: with an own dict, or without -/
def IsErr (H : Hp) (a C : Addr) : Prop := (∃ d fs, ErrAt H a C d fs) ∨ H a = some (ExO (.ref C) a)
theorem kit_err {X : Cx} {pins : List (Addr × Obj)} {σ : L2.St} {H : Hp} {s : Shared} {a C : Addr} (I : Inv X pins σ H s) (r : IsErr H a C) (T : L2.ExcC X.K C) :
    ∃ P : Heap → Prop, PySem.W.KitX X.K (.ref a) (.ref C) P ∧ P s.heap := by
  have hcl : (PySem.W.clsIn X.K C).isSome = true := by
    obtain ⟨cd, hc, _⟩ := PySem.W.any_some T.hd
    rw [hc]
    rfl
  rcases r with ⟨d, fs, r⟩ | r
  · obtain ⟨ox, od, mA, J, _⟩ := inst_of I r
    exact ⟨_, PySem.W.kitx_exc hcl T.hg T.hk T.hs T.ha T.hn T.ht T.hm, J⟩
  · obtain ⟨⟨oe, vs, ho, hz, hd, _⟩, _, _⟩ := I.hok a _ r
    refine ⟨_, PySem.W.kitx_exc (ox := oe) (od := none) hcl T.hg T.hk T.hs T.ha T.hn T.ht T.hm, ?_⟩
    obtain ⟨oc, od, oda, osl⟩ := oe
    obtain ⟨h1, h2⟩ := hz
    dsimp only at h1 h2 hd
    subst h1 h2 hd
    exact ⟨ho, rfl, rfl, trivial⟩
def rIsErr (K : PySem.W.Frag) : List V → Hp → VK → Prop := fun xs H Q => ∃ (a C : Addr) (c : V) (u : Value) (b : Bool), xs = [.ref a, c] ∧ IsErr H a C ∧ L2.ExcC K C ∧ ClsV c u ∧
  PySem.W.kitOne K (.ref C) u = some b ∧ Q (.bl b) H
def rIsErrT (K : PySem.W.Frag) : List V → Hp → VK → Prop := fun xs H Q => ∃ (a C tp : Addr) (cs : List V) (us : List Value) (b : Bool), xs = [.ref a, .ref tp] ∧ IsErr H a C ∧ L2.ExcC K C ∧
  H tp = some (.tup cs) ∧ Paired ClsV cs us ∧ PySem.W.kitAny K (.ref C) us = some b ∧ Q (.bl b) H
theorem call_isErr {X : Cx} : CallR X (.builtin "isinstance") (rIsErr X.K) := by
  intro pins s σ H xs us Q I r h
  obtain ⟨a, C, c, u, b, rfl, hi, T, k, e, q⟩ := h
  obtain ⟨u1, u2, rfl, r1, r2⟩ := vals2 r
  have e2 := k.eq r2
  subst e2
  cases (show u1 = Value.ref a from r1)
  obtain ⟨P, Z, p⟩ := kit_err I hi T
  exact PySem.W.kia_one Z I.kIn p e (fun z => nomatch z) fun tk => ⟨.bl b, H, I.tok tk, rfl, q⟩
theorem call_isErrT {X : Cx} : CallR X (.builtin "isinstance") (rIsErrT X.K) := by
  intro pins s σ H xs us Q I r h
  obtain ⟨a, C, tp, cs, ws, b, rfl, hi, T, hT, k, e, q⟩ := h
  obtain ⟨u1, u2, rfl, r1, r2⟩ := vals2 r
  cases (show u1 = Value.ref a from r1)
  cases (show u2 = Value.ref tp from r2)
  obtain ⟨P, Z, p⟩ := kit_err I hi T
  obtain ⟨_, its, rv, o, h1, h2, n, h3⟩ := (show ObjOk X.prog X.w H s.heap tp (.tup cs) from I.hok tp _ hT)
  have e3 := ClsV.all k rv
  subst e3
  obtain ⟨oc, od, dt, sl⟩ := o
  simp only at h2 h3
  subst h2 h3
  exact PySem.W.kia_tup Z I.kIn p h1 e (fun z => nomatch z) fun tk => ⟨.bl b, H, I.tok tk, rfl, q⟩
end EV
set_option Elab.async false
set_option linter.all false
set_option maxRecDepth 100000
set_option maxHeartbeats 4000000
/-! What the written part must say of own exception classes, as one Bool; a Hook by any Bool. -/
namespace EF
open PySem PySem.Spec PyProof.Rows L2 EV He
abbrev veT : List Value := [.type "ValueError", .type "Exception", .type "BaseException", .type "object"]
def clsShape (K : PySem.W.Frag) (C : Addr) (bm : List Value) : Bool := match K.lookup C with
  | some ⟨.type "type", _, .cls cd, sl⟩ => decide (cd.mro = .ref C :: bm) && (cd.hasDict && (!cd.hasDel && (match sl.toList with
    | [_, _, _, _, some (.builtin n), _] => n == "ValueError.__new__"
    | _ => false)))
  | _ => false
theorem clsShape_ok {K : PySem.W.Frag} {C : Addr} {bm : List Value} (h : clsShape K C bm = true) :
    ∃ nm q N bs sn sub ab col dd k0 k1 k2 k3 k5, K.lookup C = some (excClassObj nm q C N bs bm true sn sub ab col dd k0 k1 k2 k3 k5 "ValueError.__new__") := by
  unfold clsShape at h
  split at h
  · rename_i dd cd sl ho
    obtain ⟨h1, h⟩ := ba h
    obtain ⟨h2, h⟩ := ba h
    obtain ⟨h3, h4⟩ := ba h
    split at h4
    · rename_i k0 k1 k2 k3 n k5 hs
      obtain ⟨nm, bs, mro, ns, qn, hd, sn, sub, ab, col, del⟩ := cd
      have e1 : mro = .ref C :: bm := of_decide_eq_true h1
      have e2 : hd = true := h2
      have e3 : del = false := by simpa using h3
      have e4 : n = "ValueError.__new__" := beq_iff_eq.mp h4
      have e5 : sl = #[k0, k1, k2, k3, some (.builtin n), k5] := by
        obtain ⟨l⟩ := sl
        simp only at hs
        rw [hs]
      subst e1 e2 e3 e4 e5
      exact ⟨nm, qn, ns, bs, sn, sub, ab, col, dd, k0, k1, k2, k3, k5, ho⟩
    · cases h4
  · cases h
/-- the classes above x, own ones, then ValueError's -/
abbrev above (K : PySem.W.Frag) (bs : List Str) : List Value := bs.map (fun b => Value.ref (ga K b)) ++ veT
def errB (K : PySem.W.Frag) (x : Str) (bs : List Str) : Bool :=
  clsShape K (ga K x) (above K bs) && (eqO (PySem.W.findIn K (.ref (ga K x)) "__setattr__") (some (some (.builtin "object.__setattr__"))) &&
  (eqO (PySem.W.findIn K (.ref (ga K x)) "__getattribute__") (some (some (.builtin "BaseException.__getattribute__"))) &&
  (eqO (PySem.W.findIn K (.ref (ga K x)) "__getattr__") (some none) && (PySem.W.keepIn K (.ref (ga K x)) &&
  (eqO (PySem.W.findIn K (.ref (ga K x)) "__class__") (some (some (.builtin "object.__class__"))) && eqO (PySem.W.nsIn K mainGlobals x) (some (some (.ref (ga K x)))))))))
structure ErrK (K : PySem.W.Frag) (x : Str) (bs : List Str) : Prop where
  ox : OexC K (ga K x)
  xf : XfC K (ga K x)
  ex : L2.ExcC K (ga K x)
  hc : (PySem.W.clsIn K (ga K x)).isSome = true
  sub : ∀ v, PySem.W.subIn K (.ref (ga K x)) v = some ((Value.ref (ga K x) :: above K bs).contains v)
  nm : PySem.W.nsIn K mainGlobals x = some (some (.ref (ga K x)))
/-- what isinstance asks of every object -/
def objB (K : PySem.W.Frag) : Bool := eqO (PySem.W.specialIn K (.builtin "object.__class__") "__get__") (some (some (.builtin "getset_descriptor.__get__"))) && decide (PySem.W.takesIn K (.builtin "object.__class__") = some true)
theorem refs_above {K : PySem.W.Frag} (bs : List Str) : PySem.HandSPX.refsVE (above K bs) = true := by
  induction bs with
  | nil => exact (by decide : PySem.HandSPX.refsVE veT = true)
  | cons b bs ih => exact ih
theorem errB_ok {K : PySem.W.Frag} {x : Str} {bs : List Str} (h : errB K x bs = true) (ho : objB K = true) : ErrK K x bs := by
  obtain ⟨h1, h⟩ := ba h
  obtain ⟨h2, h⟩ := ba h
  obtain ⟨h3, h⟩ := ba h
  obtain ⟨h4, h⟩ := ba h
  obtain ⟨h5, h⟩ := ba h
  obtain ⟨h6, h7⟩ := ba h
  obtain ⟨o1, o2⟩ := ba ho
  obtain ⟨nm, q, N, bbs, sn, sub, ab, col, dd, k0, k1, k2, k3, k5, hC⟩ := clsShape_ok h1
  have hcl : PySem.W.clsIn K (ga K x) = some { name := nm, bases := bbs, mro := .ref (ga K x) :: above K bs, ns := N, qualname := q, hasDict := true, slotNames := sn, subclasses := sub, abstract := ab, collection := col, hasDel := false } := by
    unfold PySem.W.clsIn
    rw [hC] <;> rfl
  have hsub : ∀ v, PySem.W.subIn K (.ref (ga K x)) v = some ((Value.ref (ga K x) :: above K bs).contains v) := fun v => by
    show PySem.W.mroIn K (ga K x) v = _
    unfold PySem.W.mroIn
    rw [hcl]
    rfl
  have hbase : PySem.W.subIn K (.ref (ga K x)) (.type "BaseException") = some true := by
    rw [hsub, List.contains_cons, PySem.HandSPX.refsVE_contains _ _ (refs_above bs)]
    rfl
  have hobj : PySem.W.mroIn K (ga K x) (.type "object") = some true := by
    have e := hsub (.type "object")
    rw [List.contains_cons, PySem.HandSPX.refsVE_contains _ _ (refs_above bs)] at e
    exact e.trans rfl
  have hty : PySem.W.typeIn K (.ref (ga K x)) = some (.type "type") := by
    show (K.lookup (ga K x)).map (·.cls) = _
    rw [hC] <;> rfl
  have hd : PySem.W.hasDictIn K (ga K x) = true := by
    unfold PySem.W.hasDictIn
    rw [hcl] <;> rfl
  exact ⟨⟨⟨nm, q, N, bbs, above K bs, sn, sub, ab, col, dd, k0, k1, k2, k3, k5, hC, refs_above bs⟩, eqO_ok h2, hbase, hty, h5⟩,
    ⟨eqO_ok h3, eqO_ok h4, hbase, hd⟩, ⟨eqO_ok h3, eqO_ok h4, hbase, hd, eqO_ok h6, eqO_ok o1, of_decide_eq_true o2, hobj⟩, by rw [hcl]; rfl, hsub, eqO_ok h7⟩
theorem veT_ref (c : Addr) : veT.contains (.ref c) = false := by
  simp [List.contains_cons]
theorem contains_refs {K : PySem.W.Frag} (bs : List Str) (c : Addr) : (above K bs).contains (.ref c) = decide (c ∈ bs.map (ga K)) := by
  induction bs with
  | nil => exact (veT_ref c).trans (by simp)
  | cons b bs ih =>
    show (Value.ref (ga K b) :: above K bs).contains (.ref c) = _
    rw [List.contains_cons, ih]
    by_cases e : c = ga K b
    · subst e
      simp
    · have e2 : (Value.ref c == Value.ref (ga K b)) = false := by
        rw [beq_eq_false_iff_ne]
        intro z
        exact e (Value.ref.inj z)
      rw [e2]
      simp [e]
/-- isinstance of an error of the class x against the class y -/
theorem kit {K : PySem.W.Frag} {x y : Str} {bs cs : List Str} (X : ErrK K x bs) (Y : ErrK K y cs) :
    PySem.W.kitOne K (.ref (ga K x)) (.ref (ga K y)) = some (decide (ga K y = ga K x ∨ ga K y ∈ bs.map (ga K))) := by
  unfold PySem.W.kitOne
  by_cases e : ga K y = ga K x
  · rw [e, if_pos (by simp)]
    simp
  · have ne : (Value.ref (ga K x) == Value.ref (ga K y)) = false := by
      rw [beq_eq_false_iff_ne]
      intro z
      exact e (Value.ref.inj z).symm
    rw [ne, if_neg Bool.false_ne_true]
    unfold PySem.W.kitCls
    have t : ((PySem.W.clsIn K (ga K y)).isSome && PySem.W.typeIn K (.ref (ga K y)) == some (.type "type")) = true := by
      rw [Y.hc, Y.ox.tyC]
      rfl
    show (if ((PySem.W.clsIn K (ga K y)).isSome && PySem.W.typeIn K (.ref (ga K y)) == some (.type "type")) = true then _ else _) = _
    rw [if_pos t, X.sub, List.contains_cons, contains_refs]
    have e3 : (Value.ref (ga K y) == Value.ref (ga K x)) = false := by
      rw [beq_eq_false_iff_ne]
      intro z
      exact e (Value.ref.inj z)
    rw [e3, Bool.false_or]
    simp [e]
/-- .. against a built-in class -/
theorem kitT {K : PySem.W.Frag} {x : Str} {bs : List Str} (X : ErrK K x bs) {T : String} (hm : PySem.W.kitMeta T = true) :
    PySem.W.kitOne K (.ref (ga K x)) (.type T) = some (veT.contains (.type T)) := by
  unfold PySem.W.kitOne
  rw [if_neg (fun z => nomatch (beq_iff_eq.mp z : Value.ref _ = Value.type _))]
  show (if PySem.W.kitMeta T = true then PySem.W.subIn K (.ref (ga K x)) (.type T) else none) = _
  rw [if_pos hm, X.sub, List.contains_cons, PySem.HandSPX.refsVE_contains _ _ (refs_above bs)]
  rfl
/-! ### a Hook by a Bool -/
def obsX (ck : PySem.W.Frag → Bool) (fn : List DefD) (K : PySem.W.Frag) : AlD := (ck K && fn.all fun d => d.ok K, fn.map fun d => fnW K d.at_)
def SaysX (ck : PySem.W.Frag → Bool) (fn : List DefD) (K : PySem.W.Frag) : Prop := obsX ck fn K = valD fn
def obsXG (n : Nat) (ck : PySem.W.Frag → Bool) (fn : List DefD) (g : Addr → Option Obj) : AlD := obsX ck fn (frG g (asD g n))
def hookX (n : Nat) (ck : PySem.W.Frag → Bool) (fn : List DefD) : PySem.W.Hook where
  α := AlD
  obs := fun s => obsXG n ck fn s.heap.get?
  val := fun _ => valD fn
  says := fun _ h => ∃ K : PySem.W.Frag, K.In h ∧ SaysX ck fn K
  of := fun _ _ e => ⟨_, frG_in, e⟩
  keeps := fun _ _ _ ⟨K, hK, c⟩ k => ⟨K, PySem.W.Frag.In.keeps hK k, c⟩
theorem obsXG_eq {n : Nat} {ck : PySem.W.Frag → Bool} {fn : List DefD} {g : Addr → Option Obj} {s : Shared} (h : ∀ a, g a = s.heap.get? a) : obsXG n ck fn g = (hookX n ck fn).obs s := by
  rw [show g = s.heap.get? from funext h]
  rfl
section
variable {ck : PySem.W.Frag → Bool} {fn : List DefD} {K : PySem.W.Frag}
theorem SaysX.chk (c : SaysX ck fn K) : ck K = true := (ba (congrArg (fun z : AlD => z.1) c : (ck K && fn.all fun d => d.ok K) = true)).1
theorem SaysX.def_ (c : SaysX ck fn K) (i : Nat) {d : DefD} (h : fn[i]? = some d := by rfl) : ∃ fd, FunD K d.name d.qual d.params d.body d.scope (d.dvs K) (d.kws K) (fAd K d.at_) fd := by
  have c2 := (ba (congrArg (fun z : AlD => z.1) c : (ck K && fn.all fun d => d.ok K) = true)).2
  have e : fn.map (fun d => fnW K d.at_) = fn.map DefD.val := congrArg (fun z : AlD => z.2) c
  have e2 : (fn.map fun d => fnW K d.at_)[i]? = (fn.map DefD.val)[i]? := by rw [e]
  rw [List.getElem?_map, List.getElem?_map, h] at e2
  exact DefD.funD (Option.some.inj e2) (List.all_eq_true.mp c2 d (List.mem_of_getElem? h))
end
end EF
set_option Elab.async false
set_option linter.all false
set_option maxRecDepth 100000
set_option maxHeartbeats 4000000
/-! The facts of the row's head: classes, errors, defs, the tables of the defs that make lambdas. -/
namespace K8
open PySem PySem.Spec PyProof.Rows L2 He EF
abbrev R : PySem.W.OpenRow := PySem.W.OpenLaw.row PySem.Challenge.rw_editionlines_k08_deeds_made
def bT : List Str := ["BadInput", "EditionError"]
def bM : List Str := ["NoAnswer", "EditionError"]
def errsN : List (Str × List Str) := [("BadLot", bT), ("TooMany", bM), ("NoAnswer", ["EditionError"]), ("BadDeed", bT), ("BadFix", bT), ("NoDay", bT), ("NoLine", bT), ("BadText", bT), ("BadInput", ["EditionError"]), ("EditionError", [])]
def freesN : List Str := ["int", "len", "abs", "list", "repr", "range", "isinstance", "ValueError", "LookupError", "bool", "str", "all", "tuple", "sorted", "enumerate", "dict", "set", "max", "iter"]
def topsN : List (Str × Nat) := ([("is_integer", 4), ("is_within", 5), ("is_fix", 6), ("checked_fix", 19), ("checked_mate", 21), ("checked_lines", 23), ("checked_days", 24), ("is_stop", 25), ("line_stop", 26), ("day_stop", 27), ("take_named", 28), ("take_mate", 29), ("take_rising", 30), ("take_stop", 31),
  ("number_of", 33), ("is_plain_number", 34), ("deed_of", 43), ("line_deed_of", 44), ("other_deed_of", 45)] : List (Str × Nat)) ++ ([("_law_pen", 70), ("_law_draw", 71), ("_law_pick", 72), ("_law_named", 73), ("_law_fix", 74), ("_law_any", 75), ("_law_text", 76), ("_law_many", 77), ("_law_on_line", 78), ("_law_made", 79), ("_law_own_lines", 80), ("_law_own_days", 81), ("_law_kept", 82), ("_law_groups", 83), ("_law_unlike_right", 84), ("law", 85)] : List (Str × Nat))
def topsD : List (Str × Nat) := [("checked_line", 20), ("checked_day", 22)]
def methN : List (Str × Nat) := [("is_next", 5), ("take", 6), ("take_fix", 7), ("take_number", 8), ("take_by", 9), ("step", 10), ("refuse", 11), ("end", 13)]
def mkN : List (Str × Nat) := [("Fix", 46), ("Unfix", 47), ("Carry", 49), ("Drop", 50), ("Merge", 51), ("End", 52), ("Offer", 53), ("Live", 54), ("Down", 55), ("Day", 56), ("Try", 57), ("Probe", 58), ("Meet", 59), ("Rise", 60), ("Night", 61), ("Redo", 62), ("Renew", 63), ("Shut", 64)]
def noN : List (Str × Str) := [("Fix", "fix"), ("Unfix", "fix"), ("Carry", "fix"), ("Carry", "line"), ("Drop", "fix"), ("Drop", "line"), ("Merge", "line"), ("Merge", "upto"), ("End", "line"), ("Offer", "line"), ("Live", "line"), ("Down", "line"), ("Day", "line"), ("Try", "line"), ("Try", "mate"), ("Probe", "line"), ("Probe", "mate"), ("Meet", "line"), ("Meet", "mate"), ("Rise", "lines"), ("Rise", "upto"), ("Night", "lines"), ("Night", "upto"), ("Redo", "day"), ("Renew", "days"), ("Renew", "upto"), ("Shut", "day")]
/-- the kinds: class, word -/
def kindN : List (Str × Str) := [("Fix", "fix"), ("Unfix", "unfix"), ("Cut", "cut"), ("Carry", "carry"), ("Drop", "drop"), ("Merge", "merge"), ("End", "end"), ("Offer", "offer"), ("Live", "live"), ("Down", "down"), ("Day", "day"), ("Try", "try"), ("Probe", "probe"), ("Meet", "meet"), ("Rise", "rise"), ("Night", "night"), ("Redo", "redo"), ("Renew", "renew"), ("Shut", "shut")]
/-- where a method stands: class, the class that has it, its place -/
def namedN : List (Str × Str × Nat × Nat) := [("Fix", "Fix", 46, 2), ("Unfix", "Unfix", 47, 2), ("Cut", "Deed", 37, 5), ("Carry", "Carry", 49, 2), ("Drop", "Drop", 50, 2), ("Merge", "OnLine", 39, 0), ("End", "OnLine", 39, 0), ("Offer", "OnLine", 39, 0), ("Live", "OnLine", 39, 0), ("Down", "OnLine", 39, 0), ("Day", "OnLine", 39, 0), ("Try", "OfTwo", 40, 0), ("Probe", "OfTwo", 40, 0), ("Meet", "OfTwo", 40, 0), ("Rise", "Rise", 60, 2), ("Night", "Night", 61, 2), ("Redo", "OfDay", 42, 0), ("Renew", "Renew", 63, 2), ("Shut", "OfDay", 42, 0)]
def stopN : List (Str × Str × Nat × Nat) := [("Fix", "Deed", 37, 6), ("Unfix", "Deed", 37, 6), ("Cut", "Deed", 37, 6), ("Carry", "Deed", 37, 6), ("Drop", "Deed", 37, 6), ("Merge", "OfMany", 41, 0), ("End", "Deed", 37, 6), ("Offer", "Deed", 37, 6), ("Live", "Deed", 37, 6), ("Down", "Deed", 37, 6), ("Day", "Deed", 37, 6), ("Try", "Deed", 37, 6), ("Probe", "Deed", 37, 6), ("Meet", "Deed", 37, 6), ("Rise", "OfMany", 41, 0), ("Night", "OfMany", 41, 0), ("Redo", "Deed", 37, 6), ("Renew", "OfMany", 41, 0), ("Shut", "Deed", 37, 6)]
def strN : List (Str × Str × Nat × Nat) := [("Fix", "Deed", 37, 3), ("Unfix", "Deed", 37, 3), ("Cut", "Deed", 37, 3), ("Carry", "Deed", 37, 3), ("Drop", "Deed", 37, 3), ("Merge", "Deed", 37, 3), ("End", "Deed", 37, 3), ("Offer", "Deed", 37, 3), ("Live", "Deed", 37, 3), ("Down", "Deed", 37, 3), ("Day", "Deed", 37, 3), ("Try", "Deed", 37, 3), ("Probe", "Deed", 37, 3), ("Meet", "Deed", 37, 3), ("Rise", "Deed", 37, 3), ("Night", "Deed", 37, 3), ("Redo", "Deed", 37, 3), ("Renew", "Deed", 37, 3), ("Shut", "Deed", 37, 3)]
def eqN : List (Str × Str × Nat × Nat) := [("Fix", "Deed", 37, 4), ("Unfix", "Deed", 37, 4), ("Cut", "Deed", 37, 4), ("Carry", "Deed", 37, 4), ("Drop", "Deed", 37, 4), ("Merge", "Deed", 37, 4), ("End", "Deed", 37, 4), ("Offer", "Deed", 37, 4), ("Live", "Deed", 37, 4), ("Down", "Deed", 37, 4), ("Day", "Deed", 37, 4), ("Try", "Deed", 37, 4), ("Probe", "Deed", 37, 4), ("Meet", "Deed", 37, 4), ("Rise", "Deed", 37, 4), ("Night", "Deed", 37, 4), ("Redo", "Deed", 37, 4), ("Renew", "Deed", 37, 4), ("Shut", "Deed", 37, 4)]
def olN : List (Str × Str × Nat × Nat) := [("Fix", "OnMain", 38, 0), ("Unfix", "OnMain", 38, 0), ("Cut", "OnMain", 38, 0), ("Carry", "Deed", 37, 9), ("Drop", "Deed", 37, 9), ("Merge", "Deed", 37, 9), ("End", "Deed", 37, 9), ("Offer", "Deed", 37, 9), ("Live", "Deed", 37, 9), ("Down", "Deed", 37, 9), ("Day", "Deed", 37, 9), ("Try", "OfTwo", 40, 1), ("Probe", "OfTwo", 40, 1), ("Meet", "OfTwo", 40, 1), ("Rise", "Deed", 37, 9), ("Night", "Deed", 37, 9), ("Redo", "Deed", 37, 9), ("Renew", "Deed", 37, 9), ("Shut", "Deed", 37, 9)]
def odN : List (Str × Str × Nat × Nat) := [("Fix", "Deed", 37, 10), ("Unfix", "Deed", 37, 10), ("Cut", "Deed", 37, 10), ("Carry", "Deed", 37, 10), ("Drop", "Deed", 37, 10), ("Merge", "Deed", 37, 10), ("End", "Deed", 37, 10), ("Offer", "Deed", 37, 10), ("Live", "Deed", 37, 10), ("Down", "Deed", 37, 10), ("Day", "Deed", 37, 10), ("Try", "Deed", 37, 10), ("Probe", "Deed", 37, 10), ("Meet", "Deed", 37, 10), ("Rise", "Deed", 37, 10), ("Night", "Deed", 37, 10), ("Redo", "OfDay", 42, 2), ("Renew", "OfDay", 42, 2), ("Shut", "OfDay", 42, 2)]
def ofN : List (Str × Str × Nat × Nat) := [("Fix", "Deed", 37, 11), ("Unfix", "Deed", 37, 11), ("Cut", "Deed", 37, 11), ("Carry", "Deed", 37, 11), ("Drop", "Deed", 37, 11), ("Merge", "Deed", 37, 11), ("End", "Deed", 37, 11), ("Offer", "Deed", 37, 11), ("Live", "Deed", 37, 11), ("Down", "Deed", 37, 11), ("Day", "Deed", 37, 11), ("Try", "Deed", 37, 11), ("Probe", "Deed", 37, 11), ("Meet", "Deed", 37, 11), ("Rise", "Deed", 37, 11), ("Night", "Deed", 37, 11), ("Redo", "Deed", 37, 11), ("Renew", "Deed", 37, 11), ("Shut", "Deed", 37, 11)]
def nlN : List (Str × Str × Nat × Nat) := [("Carry", "Deed", 37, 8), ("Drop", "Deed", 37, 8), ("Merge", "Deed", 37, 8), ("End", "Deed", 37, 8), ("Offer", "Deed", 37, 8), ("Live", "Deed", 37, 8), ("Down", "Deed", 37, 8), ("Day", "Deed", 37, 8), ("Rise", "Deed", 37, 8), ("Night", "Deed", 37, 8), ("Redo", "OfDay", 42, 1), ("Renew", "OfDay", 42, 1), ("Shut", "OfDay", 42, 1)]
/-- each of them once -/
def dUN : List (Str × Str × Nat × Nat) := [("named", "Fix", 46, 2), ("named", "Unfix", 47, 2), ("named", "Deed", 37, 5), ("named", "Carry", 49, 2), ("named", "Drop", 50, 2), ("named", "OnLine", 39, 0), ("named", "OfTwo", 40, 0), ("named", "Rise", 60, 2), ("named", "Night", 61, 2), ("named", "OfDay", 42, 0), ("named", "Renew", 63, 2), ("stop", "Deed", 37, 6), ("stop", "OfMany", 41, 0), ("__str__", "Deed", 37, 3), ("__eq__", "Deed", 37, 4), ("own_lines", "OnMain", 38, 0), ("own_lines", "Deed", 37, 9), ("own_lines", "OfTwo", 40, 1), ("own_days", "Deed", 37, 10), ("own_days", "OfDay", 42, 2), ("own_fixes", "Deed", 37, 11), ("named_lines", "Deed", 37, 8), ("named_lines", "OfDay", 42, 1)]
def mtsN : List (Str × List (Str × Str × Nat × Nat)) := [("named", namedN), ("stop", stopN), ("__str__", strN), ("__eq__", eqN), ("own_lines", olN), ("own_days", odN), ("own_fixes", ofN), ("named_lines", nlN)]
/-- what a class stands below -/
def midN : List (Str × List Str) := [("Fix", ["Deed", "OnMain"]), ("Unfix", ["Deed", "OnMain"]), ("Cut", ["Deed", "OnMain"]), ("Carry", ["Deed", "OnLine"]), ("Drop", ["Deed", "OnLine"]), ("Merge", ["Deed", "OnLine", "OfMany"]), ("End", ["Deed", "OnLine"]), ("Offer", ["Deed", "OnLine"]), ("Live", ["Deed", "OnLine"]), ("Down", ["Deed", "OnLine"]), ("Day", ["Deed", "OnLine"]), ("Try", ["Deed", "OfTwo"]), ("Probe", ["Deed", "OfTwo"]), ("Meet", ["Deed", "OfTwo"]), ("Rise", ["Deed", "OfMany"]), ("Night", ["Deed", "OfMany"]), ("Redo", ["Deed", "OfDay"]), ("Renew", ["Deed", "OfMany", "OfDay"]), ("Shut", ["Deed", "OfDay"])]
def midL : List Str := ["Deed", "OnMain", "OnLine", "OfTwo", "OfMany", "OfDay"]
def lotN : List (Str × Nat) := [("__init__", 1), ("__contains__", 6), ("__len__", 7), ("__iter__", 8)]
def kindsL : List Str := ["fix", "unfix", "carry", "drop", "merge", "cut", "end", "offer", "try", "probe", "meet", "live", "rise", "down", "day", "night", "redo", "renew", "shut"]
/-- a method's statement -/
abbrev wSt (j : Nat) : Stmt := inClass (top 35) j
abbrev dSt (j : Nat) : Stmt := inClass (top 37) j
abbrev lSt (j : Nat) : Stmt := inClass (top 68) j
def dTop (q : Str × Nat) : DefD := ⟨(q.1, none), q.1, q.1, defArgs (top q.2), defBody (top q.2), defScope (top q.2), [], []⟩
def dTopD (q : Str × Nat) : DefD := ⟨(q.1, none), q.1, q.1, defArgs (top q.2), defBody (top q.2), defScope (top q.2), [.int 1], []⟩
def dMeth (q : Str × Nat) : DefD := ⟨("Words", some q.1), q.1, "Words." ++ q.1, defArgs (wSt q.2), defBody (wSt q.2), defScope (wSt q.2), [], []⟩
abbrev cSt (q : Str × Str × Nat × Nat) : Stmt := inClass (top q.2.2.1) q.2.2.2
def dU (q : Str × Str × Nat × Nat) : DefD := ⟨(q.2.1, some q.1), q.1, q.2.1 ++ "." ++ q.1, defArgs (cSt q), defBody (cSt q), defScope (cSt q), [], []⟩
def dLot (q : Str × Nat) : DefD := ⟨("Lot", some q.1), q.1, "Lot." ++ q.1, defArgs (lSt q.2), defBody (lSt q.2), defScope (lSt q.2), [], []⟩
/-- the defaults of an __init__ -/
def dfN (x : Str) : List Dv := if x = "Merge" then [.non] else []
def kwN (x : Str) : List (Str × Dv) := if x = "Rise" ∨ x = "Night" ∨ x = "Renew" then [("upto", .non)] else []
abbrev iSt (i : Nat) : Stmt := inClass (top i) 1
def dMk (q : Str × Nat) : DefD := ⟨(q.1, some "__init__"), "__init__", q.1 ++ ".__init__", defArgs (iSt q.2), defBody (iSt q.2), defScope (iSt q.2), dfN q.1, kwN q.1⟩
def dInitW : DefD := ⟨("Words", some "__init__"), "__init__", "Words.__init__", defArgs (wSt 0), defBody (wSt 0), defScope (wSt 0), [.int 0], []⟩
def dInitE (x : Str) (i : Nat) : DefD := ⟨(x, some "__init__"), "__init__", x ++ ".__init__", defArgs (inClass (top i) 0), defBody (inClass (top i) 0), defScope (inClass (top i) 0), [], []⟩
def iniN : List (Str × Nat × List Str) := [("BadDeed", 11, ["at"]), ("BadFix", 12, ["value"]), ("NoDay", 15, ["day"]), ("NoLine", 16, ["line"]), ("BadText", 14, ["line", "word"]), ("BadLot", 13, ["part"]), ("TooMany", 17, ["what", "most"])]
def fns : List DefD := (topsN.map dTop) ++ (topsD.map dTopD) ++ (methN.map dMeth) ++ (dUN.map dU) ++ (lotN.map dLot) ++ (mkN.map dMk) ++ [dInitW] ++ (iniN.map fun q => dInitE q.1 q.2.1)
def fas : List Fa := (freesN.map Fa.free) ++ (topsN.map fun q => Fa.glo q.1) ++ (topsD.map fun q => Fa.glo q.1) ++ (methN.map fun q => Fa.meth "Words" q.1) ++ (mtsN.flatMap fun p => p.2.map fun q => Fa.meth q.1 p.1) ++ (midL.map Fa.glo) ++ (lotN.map fun q => Fa.meth "Lot" q.1) ++
  (kindN.map fun q => Fa.glo q.1) ++ (kindN.map fun q => Fa.cls q.1) ++ (mkN.map fun q => Fa.mkr q.1) ++ (noN.map fun q => Fa.noat q.1 q.2) ++ [.glo "Words", .cls "Words", .mkr "Words", .noat "Words" "parts", .noat "Words" "line", .noat "Words" "taken", .keep "Cut", .glo "Lot", .cls "Lot", .mkr "Lot", .noat "Lot" "fixes", .int "LINES" 6, .int "DAYS" 200]
def tabN : List Defn := []
def iniE (K : PySem.W.Frag) (x : Str) (fs : List Str) : Bool := eqO (PySem.W.findIn K (.ref (ga K x)) "__init__") (some (some (.ref (ma K (ga K x) "__init__")))) && (decide (PySem.W.typeIn K (.ref (ma K (ga K x) "__init__")) = some (.type "function")) &&
  fs.all fun f => eqO (PySem.W.findIn K (.ref (ga K x)) f) (some none))
def exmB (K : PySem.W.Frag) (x : Str) (c : Value) (b : Bool) : Bool := decide (PySem.W.exmOne K (.ref (ga K x)) c = some b)
/-- the errors are not one another -/
def errA (K : PySem.W.Frag) : Bool := decide ((errsN.map fun q => ga K q.1).Nodup)
/-- a class's word -/
def kindB (K : PySem.W.Frag) (x z : Str) : Bool := match PySem.W.findIn K (.ref (ga K x)) "KIND" with
  | some (some (.str y t)) => decide (y = z) && eqO (PySem.W.specialIn K (.str y t) "__get__") (some none)
  | _ => false
def cutB (K : PySem.W.Frag) : Bool := PySem.W.makesIn K (ga K "Cut") && (eqO (PySem.W.findIn K (.ref (ga K "Cut")) "__init__") (some (some (.builtin "object.__init__"))) && decide (PySem.W.mroIn K (ga K "Cut") (.type "object") = some true))
def bmB (K : PySem.W.Frag) (g : Addr) : Bool := eqO (PySem.W.specialIn K (.ref g) "__get__") (some (some (.builtin "function.__get__"))) && (decide (PySem.W.takesIn K (.ref g) = some false) && PySem.W.fnIn K g)
def strsB : List Value → List Str → Bool
  | [], [] => true
  | .str x _ :: r, y :: s => decide (x = y) && strsB r s
  | _, _ => false
/-- Deed's: KINDS, read -/
def deedB (K : PySem.W.Frag) : Bool := (match PySem.W.findCls K (.ref (ga K "Deed")) (.type "type") "KINDS" with
  | some (.val (.ref a)) => (match K.lookup a with
    | some ⟨.type "tuple", _, .seq xs _, _⟩ => strsB xs.toList kindsL
    | _ => false)
  | _ => false) && (He5.wrapB K (ga K "Deed") "staticmethod" "staticmethod.__get__" "read" && (PySem.W.fnIn K (He5.wf K (ga K "Deed") "staticmethod" "read") && (PySem.W.readsIn K (ga K "Deed") (.type "type") && eqO (PySem.W.specialIn K (.ref (ga K "Deed")) "__getattribute__") (some (some (.builtin "type.__getattribute__"))))))
/-- the kinds that are set beside a lot -/
def besT : List String := ["NoneType", "bool", "int", "str", "tuple", "list", "dict"]
/-- what a lot's class has not -/
def lacks : List Str := ["__bool__"]
def mostB (K : PySem.W.Frag) : Bool := match PySem.W.findCls K (.ref (ga K "Lot")) (.type "type") "MOST" with
  | some (.val (.int n _)) => decide (n = 8)
  | _ => false
def lotB1 (K : PySem.W.Frag) (C : Addr) : Bool := eqO (PySem.W.findIn K (.ref C) "__class__") (some (some (.builtin "object.__class__"))) && (decide (PySem.W.mroIn K C (.type "object") = some true) && (PySem.W.selfFirst K C && (PySem.W.noSeq K C && (PySem.W.clsIn K C).any fun cd => decide (cd.mro = [.ref C, .type "object"]))))
def lotB2 (K : PySem.W.Frag) (C : Addr) : Bool := (besT.all fun t => decide (PySem.W.subIn K (.type t) (.ref C) = some false)) && ((lacks.all fun m => eqO (PySem.W.findIn K (.ref C) m) (some none)) && eqO (PySem.W.findIn K (.ref C) "__ne__") (some (some (.builtin "object.__ne__"))))
def lotB3 (K : PySem.W.Frag) (C : Addr) : Bool := He5.wrapB K C "staticmethod" "staticmethod.__get__" "of" && PySem.W.fnIn K (He5.wf K C "staticmethod" "of")
def lotB4 (K : PySem.W.Frag) (C : Addr) : Bool := mostB K && (PySem.W.readsIn K C (.type "type") && eqO (PySem.W.specialIn K (.ref C) "__getattribute__") (some (some (.builtin "type.__getattribute__"))))
def lotB5 (K : PySem.W.Frag) (C : Addr) : Bool := decide (PySem.W.kitOne K (.ref C) (.type "str") = some false) && (decide (PySem.W.kitOne K (.ref C) (.ref C) = some true) && (decide (PySem.W.kitAny K (.ref C) [.type "list", .type "tuple"] = some false) && (besT.all fun t => decide (PySem.W.kitOne K (.type t) (.ref C) = some false))))
def lotB (K : PySem.W.Frag) : Bool := lotB1 K (ga K "Lot") && (lotB2 K (ga K "Lot") && (lotB3 K (ga K "Lot") && (lotB4 K (ga K "Lot") && lotB5 K (ga K "Lot"))))
/-- a method is that of the class that has it -/
def sameB (K : PySem.W.Frag) : Bool := mtsN.all fun p => p.2.all fun q => decide (ma K (ga K q.1) p.1 = ma K (ga K q.2.1) p.1)
/-- isinstance against the middle classes -/
def kitD (K : PySem.W.Frag) : Bool := midN.all fun p => midL.all fun d => decide (PySem.W.kitOne K (.ref (ga K p.1)) (.ref (ga K d)) = some (p.2.contains d))
def kitT (K : PySem.W.Frag) : Bool := besT.all fun t => decide (PySem.W.kitOne K (.type t) (.ref (ga K "Deed")) = some false)
/-- == and != of deeds -/
def cmpB (K : PySem.W.Frag) : Bool := kindN.all fun p => (kindN.all fun q => PySem.W.notFirst K (ga K p.1) (.ref (ga K q.1))) && (besT.all fun t => decide (PySem.W.subIn K (.type t) (.ref (ga K p.1)) = some false))
def ownB (K : PySem.W.Frag) : Bool := kindN.all fun p => eqO (PySem.W.findIn K (.ref (ga K p.1)) "__class__") (some (some (.builtin "object.__class__"))) && (decide (PySem.W.mroIn K (ga K p.1) (.type "object") = some true) && eqO (PySem.W.findIn K (.ref (ga K p.1)) "__ne__") (some (some (.builtin "object.__ne__"))))
/-- C.KIND -/
def conB (K : PySem.W.Frag) (x z : Str) : Bool := (match PySem.W.findCls K (.ref (ga K x)) (.type "type") "KIND" with
  | some (.val (.str y _)) => decide (y = z)
  | _ => false) && (PySem.W.readsIn K (ga K x) (.type "type") && eqO (PySem.W.specialIn K (.ref (ga K x)) "__getattribute__") (some (some (.builtin "type.__getattribute__"))))
def conN : List (Str × Str) := [("Fix", "fix"), ("Unfix", "unfix"), ("Cut", "cut"), ("Rise", "rise"), ("Night", "night")]
/-- x.KINDS -/
def ksB (K : PySem.W.Frag) : Bool := match PySem.W.findCls K (.ref (ga K "Deed")) (.type "type") "KINDS" with
  | some (.val (.ref a)) => eqO (PySem.W.specialIn K (.ref a) "__get__") (some none) && kindN.all fun p => eqO (PySem.W.findIn K (.ref (ga K p.1)) "KINDS") (some (some (.ref a)))
  | _ => false
def newB8 (K : PySem.W.Frag) : Bool := sameB K && (kitD K && (kitT K && (cmpB K && (ownB K && ((conN.all fun q => conB K q.1 q.2) && (ksB K && lotB K))))))
/-- the defs behind static methods -/
def dAs : List He5.DefA := [⟨fun K => He5.wf K (ga K "Deed") "staticmethod" "read", "read", "Deed.read", defArgs (dSt 2), defBody (dSt 2), defScope (dSt 2), [], []⟩,
  ⟨fun K => He5.wf K (ga K "Lot") "staticmethod" "of", "of", "Lot.of", defArgs (lSt 2), defBody (lSt 2), defScope (lSt 2), [], []⟩]
def exS1 (K : PySem.W.Frag) : Bool := errA K && ((dAs.all fun d => d.ok K) && (deedB K && ((kindN.all fun q => kindB K q.1 q.2) && (cutB K && ((bmB K (ma K (ga K "Words") "is_next") && bmB K (ma K (ga K "Words") "take")) && (objB K && ((errsN.all fun q => errB K q.1 q.2) && ((iniN.all fun q => iniE K q.1 q.2.2) && (errsN.all fun q => exmB K q.1 (.ref (ga K "BadText")) (decide (q.1 = "BadText")))))))))))
def exS (K : PySem.W.Frag) : Bool := newB8 K && exS1 K
/-! ### the Hook, with the interpreter's own statics and defs at any address -/
/-- those of the addresses that are not seen yet, each once; what is seen is held as the bits of a number -/
def newB {β : Type} : List Addr → Nat → (List Addr → Nat → β) → β
  | [], s, k => k [] s
  | a :: r, s, k => match Nat.beq (Nat.land (Nat.shiftRight s a) 1) 0 with
    | true => newB r (Nat.lor s (Nat.shiftLeft 1 a)) fun n s' => k (a :: n) s'
    | false => newB r s k
def goB {β : Type} (g : Addr → Option Obj) : List Addr → Nat → (List Addr → Nat → β) → β
  | [], s, k => k [] s
  | a :: r, s, k => match g a with
    | some o => newB (He.refsD o) s fun n s' => goB g r s' fun m s2 => k (n ++ m) s2
    | none => goB g r s k
/-- what is reached in so many steps -/
def asB (g : Addr → Option Obj) : Nat → List Addr → Nat → List Addr
  | 0, fr, _ => fr
  | n + 1, fr, s => goB g fr s fun nw s' => fr ++ asB g n nw s'
def asY (g : Addr → Option Obj) (n : Nat) : List Addr := cStatics :: asB g n [mainGlobals] (Nat.shiftLeft 1 mainGlobals)
abbrev AlY : Type := AlX × List He5.FnW
def frY (n : Nat) (g : Addr → Option Obj) : PySem.W.Frag := He.frT g (asY g n)
def obsS (n : Nat) (g : Addr → Option Obj) : AlY := ((He.obsT fas fns [] (frY n g), exS (frY n g) && He.tabsB g tabN (frY n g)), dAs.map fun d => He5.fnA (frY n g) (d.at_ (frY n g)))
def valS (w : World) : AlY := (He.valX fns [] w, dAs.map He5.DefA.val)
structure SaysY (w : World) (h : Heap) (K : PySem.W.Frag) : Prop where
  x : He.SaysX fas fns [] tabN exS w h K
  y : (dAs.map fun d => He5.fnA K (d.at_ K)) = dAs.map He5.DefA.val
theorem says_fr {as : List Addr} {w : World} {h : Heap} (a : He.obsT fas fns [] (He.frT h.get? as) = He.valT fns [] w) (b : (exS (He.frT h.get? as) && He.tabsB h.get? tabN (He.frT h.get? as)) = true) : He.SaysX fas fns [] tabN exS w h (He.frT h.get? as) := by
  obtain ⟨b1, b2⟩ := ba b
  generalize hK : He.frT h.get? as = K at a b1 b2
  have at1 : ∀ p ∈ tabN, PySem.W.codeHdIn K (cT K p).1 (cT K p).2 = true ∧ ∃ u, h.get? (cT K p).2 = some u ∧ He.emptyTab u = true := by
    intro p hp
    obtain ⟨c1, c2⟩ := ba (List.all_eq_true.mp b2 p hp)
    refine ⟨c1, ?_⟩
    rcases e : h.get? (cT K p).2 with _ | u
    · rw [e] at c2
      exact nomatch c2
    · rw [e] at c2
      exact ⟨u, rfl, c2⟩
  constructor
  · exact a
  · exact b1
  · exact fun p hp => (at1 p hp).1
  · intro p hp
    obtain ⟨_, u, e, z⟩ := at1 p hp
    rw [← hK] at e ⊢
    exact He.frT_none e z
  · intro p hp
    obtain ⟨_, u, e, z⟩ := at1 p hp
    rw [e, He.emptyTab_eq z]
theorem saysY_of {n : Nat} {w : World} {h : Heap} (e : obsS n h.get? = valS w) : SaysY w h (frY n h.get?) :=
  ⟨says_fr (congrArg (fun z : AlY => z.1.1) e) (congrArg (fun z : AlY => z.1.2) e), congrArg (fun z : AlY => z.2) e⟩
theorem SaysY.keep {w : World} {h h' : Heap} {K : PySem.W.Frag} (c : SaysY w h K) (k : ∀ a o, h.get? a = some o → h'.get? a = some o) : SaysY w h' K :=
  ⟨⟨c.x.t, c.x.more, c.x.hd, c.x.out, fun p hp => k _ _ (c.x.empty p hp)⟩, c.y⟩
def hookS (n : Nat) : PySem.W.Hook where
  α := AlY
  obs := fun s => obsS n s.heap.get?
  val := fun w => valS w
  says := fun w h => ∃ K : PySem.W.Frag, K.In h ∧ SaysY w h K
  of := fun _ _ e => ⟨_, frT_in, saysY_of e⟩
  keeps := fun _ _ _ ⟨K, hK, c⟩ k => ⟨K, PySem.W.Frag.In.keeps hK k, c.keep k⟩
theorem obsS_eq {n : Nat} {g : Addr → Option Obj} {s : Shared} (h : ∀ a, g a = s.heap.get? a) : obsS n g = (hookS n).obs s := by
  rw [show g = s.heap.get? from funext h]
  rfl
end K8
set_option Elab.async false
set_option linter.all false
set_option maxRecDepth 100000
set_option maxHeartbeats 0
namespace K8
open PySem PySem.Spec PyProof.Rows L2 He EF
abbrev hkS : PySem.W.Hook := hookS 6
def obT (s : PySem.W.SharedT) : AlY := obsS 6 (HandSHeadRun.getT s)
abbrev frS (s : PySem.W.SharedT) : PySem.W.Frag := frY 6 (HandSHeadRun.getT s)
def oA (s : PySem.W.SharedT) : Bool := fas.all fun f => f.ok (frS s)
def oB (s : PySem.W.SharedT) : List FnW := fns.map fun d => fnW (frS s) d.at_
def oC (s : PySem.W.SharedT) : (Bool × Bool × Bool) × List FnW := ((fns.all fun d => d.ok (frS s), exS1 (frS s), He.tabsB (HandSHeadRun.getT s) tabN (frS s)), dAs.map fun d => He5.fnA (frS s) (d.at_ (frS s)))
def oD (s : PySem.W.SharedT) : Bool := newB8 (frS s)
def oJ (a : Bool) (b : List FnW) (c : (Bool × Bool × Bool) × List FnW) (d : Bool) : AlY := ((((a && c.1.1, b), []), (d && c.1.2.1) && c.1.2.2), c.2)
theorem obT_J (s : PySem.W.SharedT) : obT s = oJ (oA s) (oB s) (oC s) (oD s) := rfl
theorem obT_eq (s : PySem.W.SharedT) : obT s = hkS.obs s.abs := obsS_eq (HandSHeadRun.getT_eq s)
def loose : List Str := (["_wall", "LINES", "DAYS", "is_integer", "is_within", "is_fix", "EditionError", "BadInput", "NoAnswer", "BadDeed", "BadFix", "BadLot", "BadText", "NoDay", "NoLine", "TooMany", "checked_fix", "checked_line", "checked_mate", "checked_day", "checked_lines", "checked_days", "is_stop", "line_stop", "day_stop", "take_named", "take_mate", "take_rising"] : List Str) ++ (["take_stop", "number_of", "is_plain_number", "Words", "Deed", "OnMain", "OnLine", "OfTwo", "OfMany", "OfDay", "deed_of", "line_deed_of", "other_deed_of", "Fix", "Unfix", "Cut", "Carry", "Drop", "Merge", "End", "Offer", "Live", "Down", "Day", "Try", "Probe", "Meet", "Rise"] : List Str) ++ (["Night", "Redo", "Renew", "Shut", "take_fix_behind", "take_fixes", "Lot", "_law_pen", "_law_draw", "_law_pick", "_law_named", "_law_fix", "_law_any", "_law_text", "_law_many", "_law_on_line", "_law_made", "_law_own_lines", "_law_own_days", "_law_kept", "_law_groups", "_law_unlike_right"] : List Str)
noncomputable abbrev runX (w : World) (os : OsState) := HandSHeadRun.endF (HandSHeadRun.stepQ (HandSHeadRun.denQ HandSHeadRun.tabQ) R.prog w) 30000 R.prog w os
end K8
set_option Elab.async false
set_option linter.all false
set_option maxRecDepth 100000
set_option maxHeartbeats 0
namespace K8
open PySem PySem.Spec PyProof.Rows L2 He EF
theorem runA (w : World) (os : OsState) : (runX w os).map (fun s => (HandSHeadRun.looksF R.prog (PySem.W.boot_heap w.params) s.abs, HandSHeadRun.seenQ (PySem.W.view R.prog [85]) loose (PySem.importedModules R.prog.main.body) (fun s => PySem.W.xlAt (PySem.W.view R.prog [85]) [] s && PySem.W.recOk R.toRowW.records s) s.abs)) = some (true, PySem.W.openGood (PySem.W.view R.prog [85]) loose) := by
  kernel_rfl
end K8
set_option Elab.async false
set_option linter.all false
set_option maxRecDepth 100000
set_option maxHeartbeats 0
namespace K8
open PySem PySem.Spec PyProof.Rows L2 He EF
theorem runB (w : World) (os : OsState) : (runX w os).map oB = some (fns.map DefD.val) := by
  kernel_rfl
end K8
set_option Elab.async false
set_option linter.all false
set_option maxRecDepth 100000
set_option maxHeartbeats 0
namespace K8
open PySem PySem.Spec PyProof.Rows L2 He EF
theorem runC (w : World) (os : OsState) : (runX w os).map (fun s => (fns.take 50).all fun d => d.ok (frS s)) = some true := by
  kernel_rfl
end K8
set_option Elab.async false
set_option linter.all false
set_option maxRecDepth 100000
set_option maxHeartbeats 0
namespace K8
open PySem PySem.Spec PyProof.Rows L2 He EF
theorem runD (w : World) (os : OsState) : (runX w os).map oD = some true := by
  kernel_rfl
end K8
set_option Elab.async false
set_option linter.all false
set_option maxRecDepth 100000
set_option maxHeartbeats 0
namespace K8
open PySem PySem.Spec PyProof.Rows L2 He EF
theorem runE (w : World) (os : OsState) : (runX w os).map (fun s => (fas.take 150).all fun f => f.ok (frS s)) = some true := by
  kernel_rfl
end K8
set_option Elab.async false
set_option linter.all false
set_option maxRecDepth 100000
set_option maxHeartbeats 0
namespace K8
open PySem PySem.Spec PyProof.Rows L2 He EF
theorem runF (w : World) (os : OsState) : (runX w os).map (fun s => ((exS1 (frS s), He.tabsB (HandSHeadRun.getT s) tabN (frS s)), dAs.map fun d => He5.fnA (frS s) (d.at_ (frS s)))) = some ((true, true), dAs.map He5.DefA.val) := by
  kernel_rfl
end K8
set_option Elab.async false
set_option linter.all false
set_option maxRecDepth 100000
set_option maxHeartbeats 0
namespace K8
open PySem PySem.Spec PyProof.Rows L2 He EF
theorem runG (w : World) (os : OsState) : (runX w os).map (fun s => (fas.drop 150).all fun f => f.ok (frS s)) = some true := by
  kernel_rfl
end K8
set_option Elab.async false
set_option linter.all false
set_option maxRecDepth 100000
set_option maxHeartbeats 0
namespace K8
open PySem PySem.Spec PyProof.Rows L2 He EF
theorem runH (w : World) (os : OsState) : (runX w os).map (fun s => (fns.drop 50).all fun d => d.ok (frS s)) = some true := by
  kernel_rfl
end K8
set_option Elab.async false
set_option linter.all false
set_option maxRecDepth 100000
set_option maxHeartbeats 0
namespace K8
open PySem PySem.Spec PyProof.Rows L2 He EF
theorem runS (w : World) : HandSHeadRun.RunEq R (PySem.W.view R.prog [85]) hkS obT 30000 loose w := by
  intro os
  have a := runA w os
  have b := runB w os
  have c := runC w os
  have d := runD w os
  have e := runE w os
  have f := runF w os
  have g := runG w os
  have hh := runH w os
  show (runX w os).map _ = _
  generalize runX w os = x at a b c d e f g hh ⊢
  cases x with
  | none => exact nomatch b
  | some s =>
    have a' := Option.some.inj a
    have b' : oB s = _ := Option.some.inj b
    have c1 : ((fns.take 50).all fun d => d.ok (frS s)) = true := Option.some.inj c
    have c2 : ((fns.drop 50).all fun d => d.ok (frS s)) = true := Option.some.inj hh
    have c' : (fns.all fun d => d.ok (frS s)) = true := by
      rw [← List.take_append_drop 50 fns, List.all_append, c1, c2]
      rfl
    have d' : oD s = _ := Option.some.inj d
    have e1 : ((fas.take 150).all fun f => f.ok (frS s)) = true := Option.some.inj e
    have e2 : ((fas.drop 150).all fun f => f.ok (frS s)) = true := Option.some.inj g
    have e' : oA s = true := by
      show (fas.all fun f => f.ok (frS s)) = true
      rw [← List.take_append_drop 150 fas, List.all_append, e1, e2]
      rfl
    have f' := Option.some.inj f
    have f1 : exS1 (frS s) = true := congrArg (fun z => z.1.1) f'
    have f2 : He.tabsB (HandSHeadRun.getT s) tabN (frS s) = true := congrArg (fun z => z.1.2) f'
    have f3 : (dAs.map fun d => He5.fnA (frS s) (d.at_ (frS s))) = dAs.map He5.DefA.val := congrArg Prod.snd f'
    have a1 := congrArg Prod.fst a'
    have a2 := congrArg Prod.snd a'
    have oc : oC s = ((true, true, true), dAs.map He5.DefA.val) := by
      unfold oC
      rw [c', f1, f2, f3]
    show some (_, _, obT s) = _
    rw [obT_J, e', b', oc, d']
    exact congrArg some (Prod.ext a1 (Prod.ext a2 rfl))
end K8
set_option Elab.async false
set_option linter.all false
set_option maxRecDepth 100000
set_option maxHeartbeats 4000000
/-! What is known of a value all the way down, and repr of it. -/
namespace RV
open PySem PySem.Spec PyProof.Rows L2
def keyD : Key → PyData
  | .inl i => .int i
  | .inr x => .str x
mutual
/-- at v stands the datum d, all the way down -/
inductive Dat (H : Hp) : V → PyData → Prop
  | non : Dat H .non .none
  | bl (b : Bool) : Dat H (.bl b) (.bool b)
  | int (i : Int) : Dat H (.int i) (.int i)
  | str (x : Str) : Dat H (.str x) (.str x)
  | tup {a : Addr} {xs : List V} {ds : List PyData} : H a = some (.tup xs) → Dats H xs ds → Dat H (.ref a) (.tuple ds)
  | lst {a : Addr} {xs : List V} {ds : List PyData} : H a = some (.lst xs) → a ≠ sysModules → Dats H xs ds → Dat H (.ref a) (.list ds)
  | dic {a : Addr} {kvs : List (Key × V)} {kds : List (PyData × PyData)} : H a = some (.dK kvs) → kds.map (·.1) = kvs.map (fun q => keyD q.1) →
      Dats H (kvs.map (·.2)) (kds.map (·.2)) → Dat H (.ref a) (.dict kds)
inductive Dats (H : Hp) : List V → List PyData → Prop
  | nil : Dats H [] []
  | cons {x : V} {d : PyData} {xs : List V} {ds : List PyData} : Dat H x d → Dats H xs ds → Dats H (x :: xs) (d :: ds)
end
mutual
theorem Dat.same {H H' : Hp} (k : ∀ b o, H b = some o → H' b = some o) {v : V} {d : PyData} : Dat H v d → Dat H' v d
  | .non => .non
  | .bl b => .bl b
  | .int i => .int i
  | .str x => .str x
  | .tup e r => .tup (k _ _ e) (r.same k)
  | .lst e n r => .lst (k _ _ e) n (r.same k)
  | .dic e q r => .dic (k _ _ e) q (r.same k)
theorem Dats.same {H H' : Hp} (k : ∀ b o, H b = some o → H' b = some o) {xs : List V} {ds : List PyData} : Dats H xs ds → Dats H' xs ds
  | .nil => .nil
  | .cons r t => .cons (r.same k) (t.same k)
end
theorem vals_of_kv {kvs : List (Key × V)} {vs : List (Key × Value)} (r : KV kvs vs) : kvs.map (·.1) = vs.map (·.1) ∧ Vals (kvs.map (·.2)) (vs.map (·.2)) := by
  induction r with
  | nil => exact ⟨rfl, .nil⟩
  | cons h t ih => exact ⟨by rw [List.map_cons, List.map_cons, ih.1, h.1], .cons h.2 ih.2⟩
theorem pairs_of {P : Program} {w : World} {es : List DictEntry} {vs : List (Key × Value)} (r : Pairs (mixKind P w) es vs) (h : Heap) :
    (∃ as, ReadsAll h (es.map (·.key)) (vs.map fun q => keyD q.1) as ∧ as = []) ∧ es.map (·.val) = vs.map (·.2) := by
  induction r with
  | nil => exact ⟨⟨[], .nil, rfl⟩, rfl⟩
  | @cons e kv es kvs hk hv t ih =>
    obtain ⟨⟨as, ra, ha⟩, iv⟩ := ih
    subst ha
    refine ⟨⟨[], ?_, rfl⟩, by rw [List.map_cons, List.map_cons, hv, iv]⟩
    rw [List.map_cons, List.map_cons]
    rcases keyIs_shape (show keyIs kv.1 e.key = true from hk) with ⟨i, u, e1, e2⟩ | ⟨x, u, e1, e2⟩
    · rw [e1, e2]
      exact .cons (as := []) (bs := []) (.int i u) ra
    · rw [e1, e2]
      exact .cons (as := []) (bs := []) (.str x u) ra
mutual
theorem Dat.reads {P : Program} {w : World} {H : Hp} {h : Heap} (ok : HOk P w H h) {v : V} {d : PyData} {u : Value} : Dat H v d → RelV v u → ∃ as, Reads h u d as ∧ sysModules ∉ as
  | .non, r => by
    cases (show u = Value.none from r)
    exact ⟨[], .none, by simp⟩
  | .bl b, r => by
    cases (show u = Value.bool b from r)
    exact ⟨[], .bool b, by simp⟩
  | .int i, r => by
    obtain ⟨t, rfl⟩ := (show ∃ t, u = Value.int i t from r)
    exact ⟨[], .int i t, by simp⟩
  | .str x, r => by
    obtain ⟨t, rfl⟩ := (show ∃ t, u = Value.str x t from r)
    exact ⟨[], .str x t, by simp⟩
  | .tup (a := a) (xs := xs) e q, r => by
    cases (show u = Value.ref a from r)
    obtain ⟨_, its, rv, o, h1, h2, n, h3⟩ := (show ObjOk P w H h a (.tup xs) from ok a _ e)
    obtain ⟨as, ra, na⟩ := q.reads ok rv
    exact ⟨as, .tuple h1 h2 h3 ra, na⟩
  | .lst (a := a) (xs := xs) e n q, r => by
    cases (show u = Value.ref a from r)
    obtain ⟨_, its, m, rv, h1⟩ := (show ObjOk P w H h a (.lst xs) from ok a _ e)
    obtain ⟨as, ra, na⟩ := q.reads ok rv
    exact ⟨a :: as, .list h1 rfl rfl ra, fun z => by
      rcases List.mem_cons.mp z with z | z
      · exact n z.symm
      · exact na z⟩
  | .dic (a := a) (kvs := kvs) (kds := kds) e q t, r => by
    cases (show u = Value.ref a from r)
    obtain ⟨_, hs, vs, rk, o, es, ep, h1, h2, h3, _, h5, _⟩ := (show ObjOk P w H h a (.dK kvs) from ok a _ e)
    obtain ⟨k1, k2⟩ := vals_of_kv rk
    obtain ⟨⟨as, ra, ha⟩, iv⟩ := pairs_of h5 h
    obtain ⟨bs, rb, nb⟩ := t.reads ok k2
    subst ha
    refine ⟨a :: [] ++ bs, .dict h1 h2.1 h3 (as := []) (bs := bs) ?_ ?_, fun z => ?_⟩
    · have e2 : kds.map (·.1) = vs.map fun q => keyD q.1 := by
        rw [q, show (kvs.map fun q => keyD q.1) = (kvs.map (·.1)).map keyD by rw [List.map_map]; rfl, k1, List.map_map]
        rfl
      rw [e2]
      exact ra
    · rw [iv]
      exact rb
    · rcases List.mem_cons.mp z with z | z
      · exact (beq_eq_false_iff_ne.mp hs) z.symm
      · exact nb z
theorem Dats.reads {P : Program} {w : World} {H : Hp} {h : Heap} (ok : HOk P w H h) {xs : List V} {ds : List PyData} {us : List Value} : Dats H xs ds → Vals xs us → ∃ as, ReadsAll h us ds as ∧ sysModules ∉ as
  | .nil, r => by
    cases r
    exact ⟨[], .nil, by simp⟩
  | .cons q t, r => by
    cases r with
    | cons r1 r2 =>
      obtain ⟨as, ra, na⟩ := q.reads ok r1
      obtain ⟨bs, rb, nb⟩ := t.reads ok r2
      exact ⟨as ++ bs, .cons ra rb, fun z => (List.mem_append.mp z).elim na nb⟩
end
/-- repr of a container -/
def rRepr : List V → Hp → VK → Prop := fun xs H Q => ∃ a d, xs = [.ref a] ∧ Dat H (.ref a) d ∧ d.showable = true ∧ d.depth ≤ 20 ∧ d.shown.length ≤ sizeLine ∧ Q (.str d.shown) H
theorem call_repr {X : Cx} (hg : X.A.guards = some []) (hu : X.A.units + 64 < cLine) : CallR X (.builtin "repr") rRepr := by
  intro pins s σ H xs us Q I r h
  obtain ⟨a, d, rfl, D, hs, hd, hz, q⟩ := h
  cases r with
  | cons r1 r2 =>
    cases r2
    obtain ⟨as, ra, na⟩ := D.reads I.hok r1
    cases (show _ = Value.ref a from r1)
    exact repr_of_reads' ra hs (fun _ => na) hg (by omega) (fun _ _ e => e) (fun h' u tk k => ⟨.str d.shown, H, I.kept (t' := tk) k, ⟨_, rfl⟩, q⟩) hz
/-- a list display: the new list is not the table of modules -/
theorem pe_lst1 {X : Cx} {es : List Expr} {t : TA} {pos : Pos} (h : PA X es t) :
    PE X (.List es pos) (fun σ H Q => t σ H fun xs H1 => xs.length ≤ sizeLine ∧ ∀ p, H1 p = none → p ≠ sysModules → Q (.ref p) (upd H1 p (.lst xs))) := by
  refine ⟨fun pins s σ H Q I hq => ?_⟩
  refine wpAny_List_spliced (thn (h.run pos pins s σ H _ I hq) fun us s1 ⟨xs, H1, I1, r, z, q⟩ => ⟨by rw [← r.length]; exact z, ?_⟩)
  refine ⟨.ref s1.heap.objs.size, _, I1.laid (t' := s1.toks) (o := .lst xs) (fun b u e => Heap.get?_push_of_some _ e) (Nat.le_refl _) ⟨z, us, 0, r, Heap.get?_push_size _ rfl⟩, rfl,
    q _ (I1.hok.fresh (Nat.le_refl _)) (Nat.ne_of_gt I1.big)⟩
/-- a list so many times -/
def rMulL : R2 := fun x y H Q => ∃ l k xs, x = .ref l ∧ y = .int k ∧ H l = some (.lst xs) ∧ xs ≠ [] ∧ 0 ≤ k ∧ k ≤ 1000 ∧ xs.length ≤ 1000 ∧
  ∀ p, H p = none → p ≠ sysModules → Q (.ref p) (upd H p (.lst (List.replicate k.toNat xs).flatten))
theorem op_mulL {X : Cx} : OpR X (binaryOp .Mult) rMulL := by
  intro pins s σ H x y v u Q I rx ry h
  obtain ⟨l, k, xs, rfl, rfl, hT, hne, h1, h2, hz, q⟩ := h
  cases rx
  obtain ⟨t, rfl⟩ := ry
  obtain ⟨_, its, n, r, ho⟩ := (show ObjOk X.prog X.w H s.heap l (.lst xs) from I.hok l _ hT)
  have hle : its.length = xs.length := r.length.symm
  have hi : its.toArray.isEmpty = false := by
    cases its with
    | nil => exact absurd (List.eq_nil_of_length_eq_zero hle.symm) hne
    | cons a b => rfl
  have hm : xs.length * k.toNat ≤ 1000 * 1000 := Nat.mul_le_mul hz (by omega)
  have hsz : its.toArray.size = xs.length := by rw [List.size_toArray, hle]
  refine wpAny_binaryOp_repeat_ref (T := "list") (U := "int") (by decide) ⟨_, ho, rfl⟩ (fun s' => typeIs_int s' k t) noFill_list_mul F.fills_int_mul F.slot_int_rmul repeat_list F.slot_int_index.lookup
    (call_meets F.slot_int_rmul (typeIs_int s k t) F.entry_int_rmul (F.args_int_rmul_2 _ _) (int___rmul___int_list k t l its.toArray n)
      ⟨ho, rfl, ⟨_, ho, rfl⟩, call_meets F.slot_list_mul ⟨_, ho, rfl⟩ F.entry_list_mul (F.args_list_mul_2 _ _)
        (AutoListH.list___mul___list_int_3 l its.toArray n k t (by simp [Builtin.List.listFitsIndex]; omega) (by rw [hsz]; omega) (by rw [hsz]; simp [Builtin.List.listTooLong, sizeLine]; omega)) ⟨ho, ?_⟩⟩)
  rw [hi, if_neg Bool.false_ne_true, size_rep]
  refine ⟨.ref s.heap.objs.size, _, I.laid (t' := s.toks) (o := .lst (List.replicate k.toNat xs).flatten) (fun b ob q => Heap.get?_push_of_some _ q) (Nat.le_refl _) ?_, rfl, q _ (I.hok.fresh (Nat.le_refl _)) (Nat.ne_of_gt I.big)⟩
  refine ⟨?_, _, 0, r.rep k.toNat, Heap.get?_push_size _ rfl⟩
  rw [PyProof.Rows.lm_len_rep_flat, sizeLine_eq]
  have := Nat.mul_comm k.toNat xs.length
  omega
end RV
set_option Elab.async false
set_option linter.all false
set_option maxRecDepth 100000
set_option maxHeartbeats 4000000
/-! The draws of the law: the pen, a draw, a pick. -/
namespace K8
open PySem PySem.Spec PyProof.Rows L2
abbrev sPen : Stmt := top 70
abbrev sDraw : Stmt := top 71
abbrev sPick : Stmt := top 72
abbrev FnP (K : PySem.W.Frag) (x : Str) (st : Stmt) (f : Addr) (fd : FuncData) : Prop := FunD K x x (defArgs st) (defBody st) (defScope st) [] [] f fd
/-- a pen at p: its cells at a, how many were taken, what is left of a great one -/
structure Pen (H : Hp) (p a : Addr) (cs : List Int) (b g : Int) : Prop where
  pn : H p = some (.lst [.ref a, .int b, .int g])
  ce : H a = some (.lst (cs.map V.int))
  b0 : 0 ≤ b
  g0 : 0 ≤ g
  ln : cs.length ≤ 63
theorem Pen.ne {H : Hp} {p a : Addr} {cs : List Int} {b g : Int} (P : Pen H p a cs b g) : a ≠ p := fun e => by
  have z := P.ce
  rw [e, P.pn] at z
  cases cs with
  | nil => cases z
  | cons c cs => cases z
def spDraw : Sp := fun vs H Q _ => ∃ (p a : Addr) (cs : List Int) (b g many : Int), vs = [.ref p, .int many] ∧ Pen H p a cs b g ∧ b ≤ 1000 ∧ 0 < many ∧ many < 1000 ∧
  ∀ (r b' g' : Int) (H' : Hp), 0 ≤ r → r < many → b' ≤ b + 1 → Pen H' p a cs b' g' → (∀ c o, c ≠ p → H c = some o → H' c = some o) → Q (.int r) H'
/-- the built-ins that are still themselves -/
structure Blt (mg : Str → Option Value) : Prop where
  int : mg "int" = none
  len : mg "len" = none
  abs : mg "abs" = none
  list : mg "list" = none
section
variable {P : Program} {w : World} {K : PySem.W.Frag} {mg : Str → Option Value} {base : Heap} {f : Addr} {fd : FuncData}
theorem scDraw : FnScope ["_law_pen_here", "_law_many_here", "_law_digit", "_law_spot", "_law_cell", "_law_great", "_law_mixed"] ["_law_pen_here", "_law_many_here"] (defScope sDraw) :=
  ⟨rfl, rfl, rfl, by decide +kernel, rfl, by decide +kernel, by decide +kernel⟩
theorem canLay_ints (cs : List Int) : PyData.canLayAll0 (cs.map PyData.int) = true := by
  induction cs with
  | nil => rfl
  | cons c cs ih => simp [PyData.canLayAll0, PyData.canLay0, ih]
theorem depth_ints (cs : List Int) : PyData.depthAll (cs.map PyData.int) = 0 := by
  induction cs with
  | nil => rfl
  | cons c cs ih => simp [PyData.depthAll, PyData.depth, ih]
theorem shaped_ints (cs : List Int) : SeqAt.shaped (.list (cs.map .int)) = true := by
  simp [SeqAt.shaped, PyData.canLay0, PyData.depth, canLay_ints, depth_ints]
theorem dp_ints {K : PySem.W.Frag} {H : Hp} (cs : List Int) : DpAll K H (cs.map V.int) (cs.map PyData.int) := by
  induction cs with
  | nil => exact .nil
  | cons c cs ih => exact .cons (.int c) ih
theorem great0 {R many : Int} (h : decide ((10 : Int) ^ Int.toNat 18 ≤ if R < 0 then -R else R) = true) (hm : 0 < many) :
    0 ≤ (2 * ((if R < 0 then -R else R) - (10 : Int) ^ Int.toNat 18) + if decide (R < 0) = true then 1 else 0) / many := by
  have h2 := of_decide_eq_true h
  refine Int.ediv_nonneg ?_ (by omega)
  split <;> omega
theorem cpow5 (R : Int) {b : Int} (h0 : 0 ≤ b) (h1 : b ≤ 1000) : CPow (R % 2147483579 + 55823 * b + 683) 5 := by
  have a1 := Int.emod_nonneg R (show (2147483579 : Int) ≠ 0 by decide)
  have a2 := Int.emod_lt_of_pos R (show (0 : Int) < 2147483579 by decide)
  refine ⟨by decide, by decide, ?_⟩
  omega
theorem cmul1 (x y : Int) : CMul (x % 2147483629) y := by
  have a1 := Int.emod_nonneg x (show (2147483629 : Int) ≠ 0 by decide)
  have a2 := Int.emod_lt_of_pos x (show (0 : Int) < 2147483629 by decide)
  exact .inl ⟨by omega, by omega⟩
theorem cpow3 (x : Int) {b : Int} (h0 : 0 ≤ b) (h1 : b ≤ 1000) : CPow (x % 2147483629 * (2 * b + 521) + 51707 * b * b + 19) 3 := by
  have a1 := Int.emod_nonneg x (show (2147483629 : Int) ≠ 0 by decide)
  have a2 := Int.emod_lt_of_pos x (show (0 : Int) < 2147483629 by decide)
  have b1 : x % 2147483629 * (2 * b + 521) ≤ 2147483629 * (2 * b + 521) := Int.mul_le_mul_of_nonneg_right (by omega) (by omega)
  have b2 : 0 ≤ x % 2147483629 * (2 * b + 521) := Int.mul_nonneg a1 (by omega)
  have b3 : 51707 * b * b ≤ 51707 * b * 1000 := Int.mul_le_mul_of_nonneg_left h1 (by omega)
  have b4 : 0 ≤ 51707 * b * b := Int.mul_nonneg (by omega) h0
  refine ⟨by decide, by decide, ?_⟩
  omega
theorem ok_draw (F : FnP K "_law_draw" sDraw f fd) (T : Blt mg) : FnOk P w K mg base CX0 1 f fd ["_law_pen_here", "_law_many_here"] spDraw := by
  refine F.ok scDraw (fun vs H Q E h => ?_) (fun cdv A outer s H vs Q E hr h => ?_)
  · obtain ⟨p, a, cs, b, g, many, rfl, _⟩ := h
    rfl
  · obtain ⟨p, a, cs, b, g, many, rfl, N, hb, hm0, hm1, k⟩ := h
    have hu := hr.units
    refine ⟨_, PSs.nox (pss_cons (ps_if (pt_cmpR op_gt (pe_ix ix_list (pv 0) pe_int (fun _ _ => rfl)) pe_int (nomark _))
        (pss_cons (ps_set (i := 2) scDraw.nd rfl (.inl rfl) (pe_op op_mod (pe_callTy call_int1 (by rfl) T.int boot_int (pa_cons (pe_ix ix_list (pv 0) pe_int (fun _ _ => rfl)) pa_nil)) (pv 1)))
        (pss_cons (ps_asg (pe_op op_fdiv (pe_callTy call_int1 (by rfl) T.int boot_int (pa_cons (pe_ix ix_list (pv 0) pe_int (fun _ _ => rfl)) pa_nil)) (pv 1)) (pg_sub (pv 0) pe_int set_list))
        (pss_one (ps_ret (pv 2))))) pss_nil)
      (pss_cons (ps_set (i := 3) scDraw.nd rfl (.inl rfl) (pe_ix ix_list (pv 0) pe_int (fun _ _ => rfl)))
      (pss_cons (ps_asg (pe_op op_add (pv 3) pe_int) (pg_sub (pv 0) pe_int set_list))
      (pss_cons (ps_set (i := 4) scDraw.nd rfl (.inl rfl) (pe_op op_add (pe_op op_mul pe_int (pv 3)) pe_int))
      (pss_cons (ps_if (pt_cmpR (op_neD hu) (pe_ix ix_list (pv 0) pe_int (fun _ _ => rfl)) (pe_lst pa_nil) (nomark _))
        (pss_one (ps_set (i := 4) scDraw.nd rfl (.inl rfl) (pe_ix ix_list (pe_ix ix_list (pv 0) pe_int (fun _ _ => rfl))
          (pe_op op_mod (pe_callTy call_int1 (by rfl) T.int boot_int (pa_cons (pv 3) pa_nil)) (pe_callB call_len_seq (by rfl) T.len PySem.boot_len (pa_cons (pe_ix ix_list (pv 0) pe_int (fun _ _ => rfl)) pa_nil))) (fun _ _ => rfl)))) pss_nil)
      (pss_cons (ps_if (PW.pt (pw_and (pt_cmpR op_lt (pv 3) (pe_callB call_len_seq (by rfl) T.len PySem.boot_len (pa_cons (pe_ix ix_list (pv 0) pe_int (fun _ _ => rfl)) pa_nil)) (nomark _))
          (pw_and1 (pt_cmpR op_ge (pe_callB call_abs (by rfl) T.abs boot_abs (pa_cons (pv 4) pa_nil)) (pe_op op_pow pe_int pe_int) (nomark _)))))
        (pss_cons (ps_set (i := 5) scDraw.nd rfl (.inl rfl) (pe_op op_add (pe_op op_mul pe_int (pe_op op_sub (pe_callB call_abs (by rfl) T.abs boot_abs (pa_cons (pv 4) pa_nil)) (pe_op op_pow pe_int pe_int)))
            (pe_callTy call_int1 (by rfl) T.int boot_int (pa_cons (pe_cmpR op_lt (pv 4) pe_int (nomark _)) pa_nil))))
        (pss_cons (ps_asg (pe_op op_fdiv (pe_callTy call_int1 (by rfl) T.int boot_int (pa_cons (pv 5) pa_nil)) (pv 1)) (pg_sub (pv 0) pe_int set_list))
        (pss_one (ps_ret (pe_op op_mod (pe_callTy call_int1 (by rfl) T.int boot_int (pa_cons (pv 5) pa_nil)) (pv 1)))))) pss_nil)
      (pss_cons (ps_set (i := 6) scDraw.nd rfl (.inl rfl) (pe_op op_mod (pe_callTy call_int1 (by rfl) T.int boot_int (pa_cons (pe_op op_pow (pe_op op_add (pe_op op_add
          (pe_op op_mod (pe_callTy call_int1 (by rfl) T.int boot_int (pa_cons (pv 4) pa_nil)) pe_int) (pe_op op_mul pe_int (pv 3))) pe_int) pe_int) pa_nil)) pe_int))
      (pss_cons (ps_set (i := 6) scDraw.nd rfl (.inl rfl) (pe_op op_mod (pe_callTy call_int1 (by rfl) T.int boot_int (pa_cons (pe_op op_pow (pe_op op_add (pe_op op_add
          (pe_op op_mul (pv 6) (pe_op op_add (pe_op op_mul pe_int (pv 3)) pe_int)) (pe_op op_mul (pe_op op_mul pe_int (pv 3)) (pv 3))) pe_int) pe_int) pa_nil)) pe_int))
      (pss_one (ps_ret (pe_op op_mod (pe_callTy call_int1 (by rfl) T.int boot_int (pa_cons (pe_op op_fdiv (pv 6) pe_int) pa_nil)) (pv 1)))))))))))), ?_⟩
    refine ⟨_, rfl, p, _, _, _, rfl, rfl, SqL.of N.pn, atI_nat (j := 2) rfl, _, _, rfl, rfl, _, rfl, ?_⟩
    refine ite2 (fun hg => ?_) (fun hg => ?_)
    · refine ⟨_, rfl, p, _, _, _, rfl, rfl, SqL.of N.pn, atI_nat (j := 2) rfl, .inl ⟨_, rfl, _, rfl, _, _, rfl, rfl, hm0, ?_⟩⟩
      refine ⟨_, rfl, p, _, _, _, rfl, rfl, SqL.of N.pn, atI_nat (j := 2) rfl, .inl ⟨_, rfl, _, rfl, _, _, rfl, rfl, ⟨hm0, by omega⟩, _, rfl, p, _, _, _, rfl, rfl, N.pn, rfl, ?_⟩⟩
      refine ⟨_, rfl, k (g % many) b (g / many) _ (Int.emod_nonneg _ (by omega)) (Int.emod_lt_of_pos _ hm0) (by omega)
        ⟨upd_same, by rw [upd_ne N.ne]; exact N.ce, N.b0, Int.ediv_nonneg N.g0 (by omega), N.ln⟩ fun c o hc e => by rw [upd_ne hc]; exact e⟩
    · refine ⟨_, rfl, p, _, _, _, rfl, rfl, SqL.of N.pn, atI_nat (j := 1) rfl, ?_⟩
      refine ⟨_, rfl, _, _, rfl, rfl, _, rfl, p, _, _, _, rfl, rfl, N.pn, rfl, ?_⟩
      have N1 : Pen (upd H p (.lst [.ref a, .int (b + 1), .int g])) p a cs (b + 1) g :=
        ⟨upd_same, by rw [upd_ne N.ne]; exact N.ce, by have := N.b0; omega, N.g0, N.ln⟩
      refine ⟨_, rfl, _, _, rfl, rfl, .inl ⟨by decide, by decide⟩, _, _, rfl, rfl, ?_⟩
      refine ⟨_, rfl, p, _, _, _, rfl, rfl, SqL.of N1.pn, atI_nat (j := 0) rfl, Nat.zero_le _, fun q hq => ?_⟩
      have qp : p ≠ q := ne_of_none N1.pn hq
      have qa : a ≠ q := ne_of_none N1.ce hq
      have N2 : Pen (upd (upd H p (.lst [.ref a, .int (b + 1), .int g])) q (.lst [])) p a cs (b + 1) g :=
        ⟨by rw [upd_ne qp]; exact N1.pn, by rw [upd_ne qa]; exact N1.ce, N1.b0, N1.g0, N1.ln⟩
      have keep2 : ∀ c o, c ≠ p → H c = some o → upd (upd H p (.lst [.ref a, .int (b + 1), .int g])) q (.lst []) c = some o := fun c o hc e => by
        have e1 : upd H p (.lst [.ref a, .int (b + 1), .int g]) c = some o := by rw [upd_ne hc]; exact e
        rw [upd_ne (ne_of_none e1 hq)]
        exact e1
      refine ⟨.list (cs.map .int), .list [], .lst (SqL.of N2.ce) (dp_ints cs), .lst (SqL.of upd_same) .nil, shaped_ints cs, by decide, _, rfl, ?_⟩
      have two : (PyData.list (cs.map .int)).eqv (.list []) = true ∨ ((PyData.list (cs.map .int)).eqv (.list []) = false ∧ ∃ c, atI (cs.map V.int) (b % ((cs.map V.int).length : Int)) = some (.int c) ∧ (0 : Int) < ((cs.map V.int).length : Int)) := by
        cases cs with
        | nil => exact .inl rfl
        | cons c0 cs =>
          refine .inr ⟨rfl, ?_⟩
          have hl : (0 : Int) < (((c0 :: cs).map V.int).length : Int) := by rw [List.length_map, List.length_cons]; omega
          obtain ⟨j, hj⟩ := Int.eq_ofNat_of_zero_le (Int.emod_nonneg b (Int.ne_of_gt hl))
          have hlt := Int.emod_lt_of_pos b hl
          have hj2 : j < (c0 :: cs).length := by rw [hj, List.length_map] at hlt; exact Int.ofNat_lt.mp hlt
          refine ⟨(c0 :: cs)[j], ?_, hl⟩
          rw [hj]
          refine atI_nat ?_
          rw [List.getElem?_map, List.getElem?_eq_getElem hj2]
          rfl
      show if (!(PyData.list (cs.map .int)).eqv (.list [])) = true then _ else _
      rcases two with e | ⟨e, c, hc, hl⟩
      case' inl =>
        rw [e]
        refine iteF ?_
      case' inr =>
        rw [e]
        refine iteT ?_
        refine ⟨_, rfl, p, _, _, _, rfl, rfl, SqL.of N2.pn, atI_nat (j := 0) rfl, _, rfl, .inl ⟨_, rfl, _, rfl, p, _, _, _, rfl, rfl, SqL.of N2.pn, atI_nat (j := 0) rfl, a, _, rfl, .inl (SqL.of N2.ce), _, _, rfl, rfl, hl, a, _, _, _, rfl, rfl, SqL.of N2.ce, hc, ?_⟩⟩
      all_goals
        refine ⟨_, rfl, _, rfl, p, _, _, _, rfl, rfl, SqL.of N2.pn, atI_nat (j := 0) rfl, a, _, rfl, .inl (SqL.of N2.ce), _, _, rfl, rfl, _, rfl, ?_⟩
        refine ite2 (fun h1 => ?_) (fun h1 => ?_)
        · refine ⟨_, rfl, _, rfl, _, _, rfl, rfl, ⟨by decide, by decide, by decide⟩, _, _, rfl, rfl, _, rfl, ?_⟩
          refine ite2 (fun h2 => ?_) (fun h2 => ?_)
          · refine ⟨_, rfl, _, rfl, _, _, rfl, rfl, ⟨by decide, by decide, by decide⟩, _, _, rfl, rfl, _, _, rfl, rfl, .inl ⟨by decide, by decide⟩, _, rfl, _, _, rfl, rfl, .inr ⟨_, rfl, _, _, rfl, rfl, ?_⟩⟩
            refine ⟨_, rfl, .inl ⟨_, rfl, _, rfl, _, _, rfl, rfl, ⟨hm0, by omega⟩, _, rfl, p, _, _, _, rfl, rfl, N2.pn, rfl, ?_⟩⟩
            refine ⟨_, rfl, .inl ⟨_, rfl, _, rfl, _, _, rfl, rfl, hm0, ?_⟩⟩
            refine k _ (b + 1) _ _ (Int.emod_nonneg _ (by omega)) (Int.emod_lt_of_pos _ hm0) (by omega)
              ⟨upd_same, by rw [upd_ne N2.ne]; exact N2.ce, N2.b0, great0 h2 hm0, N2.ln⟩ fun c o hc e => by rw [upd_ne hc]; exact keep2 c o hc e
          · refine ⟨_, rfl, .inl ⟨_, rfl, _, _, rfl, rfl, (by show (0 : Int) < _; decide), _, rfl, _, _, rfl, rfl, .inl ⟨by decide, by decide⟩, _, _, rfl, rfl, _, _, rfl, rfl, _, _, rfl, rfl, cpow5 _ N.b0 hb, .inl ⟨_, rfl, _, _, rfl, rfl, (by show (0 : Int) < _; decide), ?_⟩⟩⟩
            refine ⟨_, rfl, _, rfl, _, _, rfl, rfl, .inl ⟨by decide, by decide⟩, _, _, rfl, rfl, _, _, rfl, rfl, cmul1 _ _, _, rfl, _, _, rfl, rfl, .inl ⟨by decide, by decide⟩, _, rfl, _, _, rfl, rfl, .inr ⟨by have := N.b0; omega, by omega⟩, _, _, rfl, rfl, _, _, rfl, rfl, _, _, rfl, rfl, cpow3 _ N.b0 hb, .inl ⟨_, rfl, _, _, rfl, rfl, (by show (0 : Int) < _; decide), ?_⟩⟩
            refine ⟨_, rfl, _, _, rfl, rfl, ⟨by decide, by decide⟩, .inl ⟨_, rfl, _, rfl, _, _, rfl, rfl, hm0, ?_⟩⟩
            exact k _ (b + 1) g _ (Int.emod_nonneg _ (by omega)) (Int.emod_lt_of_pos _ hm0) (by omega) N2 keep2
        · refine ⟨_, rfl, .inl ⟨_, rfl, _, _, rfl, rfl, (by show (0 : Int) < _; decide), _, rfl, _, _, rfl, rfl, .inl ⟨by decide, by decide⟩, _, _, rfl, rfl, _, _, rfl, rfl, _, _, rfl, rfl, cpow5 _ N.b0 hb, .inl ⟨_, rfl, _, _, rfl, rfl, (by show (0 : Int) < _; decide), ?_⟩⟩⟩
          refine ⟨_, rfl, _, rfl, _, _, rfl, rfl, .inl ⟨by decide, by decide⟩, _, _, rfl, rfl, _, _, rfl, rfl, cmul1 _ _, _, rfl, _, _, rfl, rfl, .inl ⟨by decide, by decide⟩, _, rfl, _, _, rfl, rfl, .inr ⟨by have := N.b0; omega, by omega⟩, _, _, rfl, rfl, _, _, rfl, rfl, _, _, rfl, rfl, cpow3 _ N.b0 hb, .inl ⟨_, rfl, _, _, rfl, rfl, (by show (0 : Int) < _; decide), ?_⟩⟩
          refine ⟨_, rfl, _, _, rfl, rfl, ⟨by decide, by decide⟩, .inl ⟨_, rfl, _, rfl, _, _, rfl, rfl, hm0, ?_⟩⟩
          exact k _ (b + 1) g _ (Int.emod_nonneg _ (by omega)) (Int.emod_lt_of_pos _ hm0) (by omega) N2 keep2
end
open RV
theorem same_new {H : Hp} {p : Addr} {o : HO} (n : H p = none) : Same H (upd H p o) := fun b u e => by
  rw [upd_ne (ne_of_none e n)]
  exact e
theorem Pen.same {H H' : Hp} {p a : Addr} {cs : List Int} {b g : Int} (P : Pen H p a cs b g) (k : Same H H') : Pen H' p a cs b g :=
  ⟨k _ _ P.pn, k _ _ P.ce, P.b0, P.g0, P.ln⟩
/-- a heap without p -/
def mn (H : Hp) (p : Addr) : Hp := fun c => if c = p then none else H c
theorem mn_same {H : Hp} {p : Addr} : mn H p p = none := if_pos rfl
theorem mn_ne {H : Hp} {p c : Addr} (h : c ≠ p) : mn H p c = H c := if_neg h
theorem mn_at {H : Hp} {p c : Addr} {o u : HO} (hp : H p = some u) (hc : H c = some o) (d : o ≠ u) : mn H p c = some o := by
  rw [mn_ne (ne_of hc hp d)]
  exact hc
theorem _root_.RV.Dats.mem {H : Hp} {xs : List V} {ds : List PyData} (r : Dats H xs ds) {x : V} (hx : x ∈ xs) : ∃ d ∈ ds, Dat H x d := by
  induction xs generalizing ds with
  | nil => cases hx
  | cons y ys ih =>
    cases r with
    | @cons _ d _ ds r1 r2 =>
      rcases List.mem_cons.mp hx with e | e
      · exact ⟨d, List.mem_cons_self, by rw [e]; exact r1⟩
      · obtain ⟨d', h1, h2⟩ := ih r2 e
        exact ⟨d', List.mem_cons_of_mem _ h1, h2⟩
def spPen (K : PySem.W.Frag) : Sp := fun vs H Q _ => ∃ (s : Addr) (ns : List Int), vs = [.ref s] ∧ SqL K H s (ns.map V.int) ∧ ns.length ≤ 63 ∧
  ∀ (p a : Addr) (cs : List Int) (H' : Hp), Pen H' p a cs 0 0 → Same H H' → Q (.ref p) H'
def spPick : Sp := fun vs H Q _ => ∃ (p a l : Addr) (cs : List Int) (b g : Int) (xs : List V), vs = [.ref p, .ref l] ∧ Pen H p a cs b g ∧ b ≤ 1000 ∧ l ≠ p ∧ H l = some (.lst xs) ∧
  xs ≠ [] ∧ xs.length < 1000 ∧
  ∀ (x : V) (b' g' : Int) (H' : Hp), x ∈ xs → b' ≤ b + 1 → Pen H' p a cs b' g' → (∀ c o, c ≠ p → H c = some o → H' c = some o) → Q x H'
section
variable {P : Program} {w : World} {K : PySem.W.Frag} {mg : Str → Option Value} {base : Heap} {f fD : Addr} {fd fdD : FuncData}
theorem scPen : FnScope ["_law_script"] ["_law_script"] (defScope sPen) := ⟨rfl, rfl, rfl, by decide +kernel, rfl, by decide +kernel, by decide +kernel⟩
theorem cut_ints (ns : List Int) (lo hi : Option Int) : ∃ cs : List Int, cutV (ns.map V.int) lo hi = cs.map V.int ∧ cs.length ≤ ns.length := by
  refine ⟨(ns.drop (HT.sIx (ns.map V.int).length 0 lo)).take (HT.sIx (ns.map V.int).length (ns.map V.int).length hi - HT.sIx (ns.map V.int).length 0 lo), ?_, ?_⟩
  · rw [List.map_take, List.map_drop]
    rfl
  · rw [List.length_take, List.length_drop]
    omega
theorem ok_pen (F : FnP K "_law_pen" sPen f fd) (T : Blt mg) : FnOk P w K mg base CX0 1 f fd ["_law_script"] (spPen K) := by
  refine F.ok scPen (fun vs H Q E h => ?_) (fun cdv A outer s H vs Q E hr h => ?_)
  · obtain ⟨a, ns, rfl, _⟩ := h
    rfl
  · obtain ⟨a, ns, rfl, hS, hl, k⟩ := h
    refine ⟨_, PSs.nox (pss_one (ps_ret (pe_lst (pa_cons (pe_callTy call_list_of (by rfl) T.list boot_list (pa_cons (pe_slice sl_list (pv 0) po_none (po_some pe_int)) pa_nil)) (pa_cons pe_int (pa_cons pe_int pa_nil)))))), ?_⟩
    obtain ⟨cs, e, hc⟩ := cut_ints ns none (some 63)
    refine ⟨_, rfl, _, rfl, a, _, rfl, hS, fun q hq => ?_⟩
    rw [e]
    refine ⟨q, _, rfl, .inl (SqL.of upd_same), fun r hr' => ⟨(by show 3 ≤ sizeLine; decide), fun p hp => ?_⟩⟩
    have n1 := ne_of_none (upd_same (H := upd H q (.lst (cs.map V.int))) (a := r) (o := .lst (cs.map V.int))) hp
    refine k p r cs _ ⟨upd_same, by rw [upd_ne n1, upd_same], Int.le_refl _, Int.le_refl _, by omega⟩ ((same_new hq).trans ((same_new hr').trans (same_new hp)))
theorem scPick : FnScope ["_law_pen_here", "_law_some"] ["_law_pen_here", "_law_some"] (defScope sPick) := ⟨rfl, rfl, rfl, by decide +kernel, rfl, by decide +kernel, by decide +kernel⟩
theorem ok_pick (F : FnP K "_law_pick" sPick f fd) (T : Blt mg) (FD : FnP K "_law_draw" sDraw fD fdD) (gD : mg "_law_draw" = some (.ref fD)) :
    FnOk P w K mg base CX0 2 f fd ["_law_pen_here", "_law_some"] spPick := by
  have GD : FnOk P w K mg base CX0 1 fD fdD ["_law_pen_here", "_law_many_here"] spDraw := ok_draw FD T
  have bD : Binds K fdD ["_law_pen_here", "_law_many_here"] [] := FD.bindsN fun _ _ _ _ _ _ us hl => match us, hl with | [_, _], _ => rfl
  refine F.ok scPick (fun vs H Q E h => ?_) (fun cdv A outer s H vs Q E hr h => ?_)
  · obtain ⟨p, a, l, cs, b, g, xs, rfl, _⟩ := h
    rfl
  · obtain ⟨p, a, l, cs, b, g, xs, rfl, N, hb, nl, hL, hx, hz, k⟩ := h
    refine ⟨_, PSs.nox (pss_one (ps_ret (pe_ix ix_list (pv 1) (pe_call GD hr (by rfl) gD FD.kp bD .nil pass0 (pa_cons (pv 0) (pa_cons (pe_callB call_len_seq (by rfl) T.len PySem.boot_len (pa_cons (pv 1) pa_nil)) pa_nil))) (fun _ _ => rfl)))), ?_⟩
    have h0 : (0 : Int) < (xs.length : Int) := by
      cases xs with
      | nil => exact absurd rfl hx
      | cons x xs => rw [List.length_cons]; omega
    refine ⟨_, rfl, _, rfl, _, rfl, l, _, rfl, .inl (SqL.of hL), p, a, cs, b, g, _, rfl, N, hb, h0, by omega, fun r b' g' H' r0 r1 hb' N' kp => ?_⟩
    obtain ⟨j, rfl⟩ := Int.eq_ofNat_of_zero_le r0
    have hj : j < xs.length := Int.ofNat_lt.mp r1
    exact ⟨l, xs, _, _, rfl, rfl, SqL.of (kp l _ nl hL), atI_nat (List.getElem?_eq_getElem hj), k _ b' g' H' (List.getElem_mem hj) hb' N' kp⟩
end
end K8
set_option Elab.async false
set_option linter.all false
set_option maxRecDepth 100000
set_option maxHeartbeats 1000000
/-! The checks: is_integer, is_within, is_fix. -/
namespace K8
open PySem PySem.Spec PyProof.Rows L2 RV
abbrev sFix : Stmt := top 6
abbrev sInt : Stmt := top 4
abbrev sWithin : Stmt := top 5
structure Blt2 (mg : Str → Option Value) : Prop where
  isi : mg "isinstance" = none
  int : mg "int" = none
  bool : mg "bool" = none
  str : mg "str" = none
  len : mg "len" = none
  all : mg "all" = none
theorem boot_T {x : Str} {t : String} (h : bootBuiltins x = some (.type t) := by decide +kernel) : bootBuiltins x = some (.type t) := h
/-- isinstance(e, T) of a value of a built-in type -/
def rIsB (K : PySem.W.Frag) : List V → Hp → VK → Prop := rIsi K
theorem isb {K : PySem.W.Frag} {H : Hp} {v : V} {a b : String} {r : Bool} {Q : VK} (t : TyX K H v (.type a)) (h : kitB a b = some r) (k : Q (.bl r) H) : rIsi K [v, .ty b] H Q := ⟨v, .ty b, _, _, r, rfl, .ty b, t, kit_ty h, k⟩
theorem if_posB {b : Bool} {A B : Prop} (hb : b = true) (h : A) : if b = true then A else B := by rw [if_pos hb]; exact h
theorem if_negB {b : Bool} {A B : Prop} (hb : b = false) (h : B) : if b = true then A else B := by rw [if_neg (by rw [hb]; exact Bool.false_ne_true)]; exact h
def spIsInt (K : PySem.W.Frag) : Sp := fun vs H Q _ => ∃ v t bi bb, vs = [v] ∧ TyX K H v (.type t) ∧ kitB t "int" = some bi ∧ kitB t "bool" = some bb ∧ Q (.bl (bi && !bb)) H
def spWithin (K : PySem.W.Frag) : Sp := fun vs H Q _ => ∃ v t bi bb lo hi, vs = [v, .int lo, .int hi] ∧ TyX K H v (.type t) ∧ kitB t "int" = some bi ∧ kitB t "bool" = some bb ∧
  (((bi && !bb) = false ∧ Q (.bl false) H) ∨ ((bi && !bb) = true ∧ ∃ i, v = .int i ∧ Q (.bl (decide (lo ≤ i) && decide (i ≤ hi))) H))
section
variable {P : Program} {w : World} {K : PySem.W.Frag} {mg : Str → Option Value} {base : Heap} {f fI : Addr} {fd fdI : FuncData}
theorem scInt : FnScope ["value"] ["value"] (defScope sInt) := ⟨rfl, rfl, rfl, by decide +kernel, rfl, by decide +kernel, by decide +kernel⟩
theorem ok_isInt (F : FnP K "is_integer" sInt f fd) (T : Blt2 mg) : FnOk P w K mg base CX0 1 f fd ["value"] (spIsInt K) := by
  refine F.ok scInt (fun vs H Q E h => ?_) (fun cdv A outer s H vs Q E hr h => ?_)
  · obtain ⟨v, t, bi, bb, rfl, _⟩ := h
    rfl
  · obtain ⟨v, t, bi, bb, rfl, ht, h1, h2, k⟩ := h
    refine ⟨_, PSs.nox (pss_one (ps_ret (pe_and (pe_callB call_isi (by rfl) T.isi PyProof.Rows.boot_isinstance (pa_cons (pv 0) (pa_cons (pe_bltn (v := .ty "int") (by rfl) T.int boot_int rfl) pa_nil)))
      (pe_one (pe_not (pe_callB call_isi (by rfl) T.isi PyProof.Rows.boot_isinstance (pa_cons (pv 0) (pa_cons (pe_bltn (v := .ty "bool") (by rfl) T.bool boot_T rfl) pa_nil)))))))), ?_⟩
    refine ⟨v, rfl, v, .ty "int", _, _, bi, rfl, .ty _, ht, kit_ty h1, bi, rfl, ?_⟩
    cases bi with
    | true => exact if_posB rfl ⟨v, rfl, v, .ty "bool", _, _, bb, rfl, .ty _, ht, kit_ty h2, bb, rfl, by simpa using k⟩
    | false => exact if_negB rfl (by simpa using k)
theorem scWithin : FnScope ["value", "least", "most"] ["value", "least", "most"] (defScope sWithin) := ⟨rfl, rfl, rfl, by decide +kernel, rfl, by decide +kernel, by decide +kernel⟩
theorem ok_within (F : FnP K "is_within" sWithin f fd) (T : Blt2 mg) (FI : FnP K "is_integer" sInt fI fdI) (gI : mg "is_integer" = some (.ref fI)) : FnOk P w K mg base CX0 2 f fd ["value", "least", "most"] (spWithin K) := by
  have GI : FnOk P w K mg base CX0 1 fI fdI ["value"] (spIsInt K) := ok_isInt FI T
  have bI : L2.Binds K fdI ["value"] [] := FI.bindsN fun _ _ _ _ _ _ us hl => match us, hl with | [_], _ => rfl
  refine F.ok scWithin (fun vs H Q E h => ?_) (fun cdv A outer s H vs Q E hr h => ?_)
  · obtain ⟨v, t, bi, bb, lo, hi, rfl, _⟩ := h
    rfl
  · obtain ⟨v, t, bi, bb, lo, hi, rfl, ht, h1, h2, k⟩ := h
    refine ⟨_, PSs.nox (pss_one (ps_ret (pe_and (pe_call GI hr (by rfl) gI FI.kp bI .nil pass0 (pa_cons (pv 0) pa_nil)) (pe_one (pe_chain op_le op_le (pv 1) (pv 0) (pv 2)))))), ?_⟩
    refine ⟨v, rfl, v, t, bi, bb, rfl, ht, h1, h2, (bi && !bb), rfl, ?_⟩
    rcases k with ⟨e, k⟩ | ⟨e, i, rfl, k⟩
    · rw [e]
      exact if_negB rfl k
    · rw [e]
      refine if_posB rfl ⟨_, rfl, _, rfl, lo, i, rfl, rfl, _, rfl, ?_⟩
      by_cases hle : lo ≤ i
      · refine if_posB (decide_eq_true hle) ⟨_, rfl, i, hi, rfl, rfl, ?_⟩
        rw [decide_eq_true hle] at k
        simpa using k
      · refine if_negB (decide_eq_false hle) ?_
        rw [decide_eq_false hle] at k
        simpa using k
end
end K8
set_option Elab.async false
set_option linter.all false
set_option maxRecDepth 100000
set_option maxHeartbeats 1000000
namespace K8
open PySem PySem.Spec PyProof.Rows L2 RV
def letB (c : Nat) : Bool := decide (97 ≤ c) && decide (c ≤ 122)
/-- 1 to 8 letters from a to z -/
def isFixB (x : Str) : Bool := decide (1 ≤ (x.length : Int)) && (decide ((x.length : Int) ≤ 8) && x.cps.toList.all letB)
theorem one_lt {a b : Nat} : ([a] < [b]) ↔ a < b := by
  rw [List.cons_lt_cons_iff]
  constructor
  · rintro (h | ⟨_, h⟩)
    · exact h
    · cases h
  · exact .inl
theorem yesB {σ : L2.St} {H : Hp} {F G : Hp → Prop} (h : F H) : tYes σ H (fun b H3 => if b = true then F H3 else G H3) := by
  show if true = true then F H else G H
  exact if_posB rfl h
theorem let_eq (c : Nat) : (!decide ([c] < [97]) && !decide ([122] < [c])) = letB c := by
  unfold letB
  have e1 : ([c] < [97]) ↔ c < 97 := one_lt
  have e2 : ([122] < [c]) ↔ 122 < c := one_lt
  rw [decide_eq_decide.mpr e1, decide_eq_decide.mpr e2, ← decide_not, ← decide_not, decide_eq_decide.mpr (Nat.not_lt), decide_eq_decide.mpr (Nat.not_lt)]
def spFix (K : PySem.W.Frag) : Sp := fun vs H Q _ => ∃ v, vs = [v] ∧ ((∃ x, v = .str x ∧ x.length ≤ 1000000 ∧ ∀ H', Same H H' → Q (.bl (isFixB x)) H') ∨ (∃ t, TyX K H v t ∧ PySem.W.kitOne K t (.type "str") = some false ∧ Q (.bl false) H))
section
variable {P : Program} {w : World} {K : PySem.W.Frag} {mg : Str → Option Value} {base : Heap} {f fI : Addr} {fd fdI : FuncData}
abbrev rLeS : R2 := fun x y H Q => ∃ i j, x = V.str i ∧ y = V.str j ∧ Q (V.bl (!decide (j.cps.toList < i.cps.toList))) H
abbrev scFix_N : List Str := ["value", "letter"]
theorem scFix : FnScope scFix_N ["value"] (defScope sFix) := ⟨rfl, rfl, rfl, by decide +kernel, rfl, by decide +kernel, by decide +kernel⟩
def teLet : TE := tChain rLeS rLeS (tC (.str "a")) (tVar 1) (tC (.str "z"))
theorem lets_read {σ : L2.St} {H : Hp} {Q : VK} {x : Str} (h0 : σ[0]? = some (some (.str x))) (hw : ∀ v, wipe ((wipe σ [1]).set 1 v) [1] = wipe σ [1]) (hi : ∀ v, ((wipe σ [1]).set 1 (some v))[1]? = some (some v)) (hz : x.length ≤ 1000000)
    (k : ∀ r H', Same H H' → H' r = some (.lst ((x.cps.toList.map letB).map V.bl)) → Q (.ref r) H') : tLc (iStr (tVar 0)) (gName 1) tYes teLet [1] σ H Q := by
  refine ⟨_, h0, x, rfl, fun D nD => lc_it walk_str (fun n H' => Same H H' ∧ H' D = some (.lst (((x.cps.toList.take n).map letB).map V.bl))) ⟨fun c o e => ?_, upd_same⟩ (fun _ _ _ _ => trivial) ?_ ?_⟩
  · rw [upd_ne (ne_of_none e nD)]
    exact e
  · rintro n v H1 H2 hn ⟨s1, hD⟩ ⟨rfl, c, hc, rfl⟩
    have hc2 : x.cps.toList[n]? = some c := by rw [Array.getElem?_toList]; exact hc
    obtain ⟨hl, hv⟩ := List.getElem?_eq_some_iff.mp hc2
    have more : x.cps.toList.take (n + 1) = x.cps.toList.take n ++ [c] := by
      rw [← hv]
      exact List.take_succ_eq_append_getElem hl
    have fin : ∀ b, b = letB c → ∃ acc, H2 D = some (.lst acc) ∧ acc.length < sizeLine ∧ (Same H (upd H2 D (.lst (acc ++ [V.bl b]))) ∧ upd H2 D (.lst (acc ++ [V.bl b])) D = some (.lst (((x.cps.toList.take (n + 1)).map letB).map V.bl))) := by
      rintro b rfl
      refine ⟨_, hD, ?_, ?_, ?_⟩
      · have : x.cps.toList.length = x.length := by simp [Str.length]
        rw [List.length_map, List.length_map, List.length_take, sizeLine_eq]
        omega
      · intro c o hc
        rw [upd_ne (ne_of_none hc nD)]
        exact s1 _ _ hc
      · rw [more, List.map_append, List.map_append]
        exact upd_same
    refine ⟨hw _, yesB ?_⟩
    refine ⟨_, hi _, "a", ⟨#[c]⟩, rfl, rfl, _, rfl, ?_⟩
    have ea : ("a" : Str).cps.toList = [97] := by decide +kernel
    have ez : ("z" : Str).cps.toList = [122] := by decide +kernel
    cases e : (!decide ((⟨#[c]⟩ : Str).cps.toList < ("a" : Str).cps.toList)) with
    | true =>
      refine if_posB rfl ⟨⟨#[c]⟩, "z", rfl, rfl, fin _ ?_⟩
      rw [← let_eq]
      rw [ea] at e
      rw [ez]
      have e' : (!decide ([c] < [97])) = true := e
      rw [e', Bool.true_and]
    | false =>
      refine if_negB rfl (fin _ ?_)
      rw [← let_eq]
      rw [ea] at e
      have e' : (!decide ([c] < [97])) = false := e
      rw [e', Bool.false_and]
  · rintro H1 ⟨s1, hD⟩
    rw [List.take_of_length_le (by simp)] at hD
    exact k D H1 s1 hD
theorem ok_fix (F : FnP K "is_fix" sFix f fd) (T : Blt2 mg) : FnOk P w K mg base CX0 1 f fd ["value"] (spFix K) := by
  refine F.ok scFix (fun vs H Q E h => ?_) (fun cdv A outer s H vs Q E hr h => ?_)
  · obtain ⟨v, rfl, _⟩ := h
    rfl
  · obtain ⟨v, rfl, k⟩ := h
    refine ⟨_, PSs.nox (pss_cons (ps_if (PW.pt (pw_or (pt_not (pt_val (pe_callB call_isi (by rfl) T.isi PyProof.Rows.boot_isinstance (pa_cons (pv 0) (pa_cons (pe_bltn (v := .ty "str") (by rfl) T.str boot_T rfl) pa_nil)))))
        (pw_or1 (pt_not (pt_chain op_le op_le pe_int (pe_callB call_len_str (by rfl) T.len PySem.boot_len (pa_cons (pv 0) pa_nil)) pe_int))))) (pss_one (ps_ret pe_bl)) pss_nil)
      (pss_one (ps_ret (pe_callB (cr_all rfl) (by rfl) T.all PyProof.Rows.boot_all (pa_cons (pe_lc (own := [("letter", 1)]) (g := gName 1) (tt := tYes) (te := teLet) rfl scFix.nd (pi_str (pv 0)) (blkOk_by (N := scFix_N) (sc := defScope sFix) (by decide +kernel))
        (fun _ _ _ _ _ => pg_name (i := 1) scFix.nd rfl (.inl rfl)) (fun _ _ _ _ _ => pts_nil) (fun _ _ _ _ _ => pe_chain op_le_str op_le_str pe_str (pv 1) pe_str)) pa_nil))))), ?_⟩
    rcases k with ⟨x, rfl, hz, k⟩ | ⟨t, ht, h1, k⟩
    · refine ⟨.str x, rfl, .str x, .ty "str", _, _, true, rfl, .ty _, .base (.str x), kit_ty (by decide +kernel), true, rfl, if_negB rfl ?_⟩
      refine ⟨.str x, rfl, x, rfl, by rw [sizeLine_eq]; omega, 1, _, rfl, rfl, _, rfl, ?_⟩
      by_cases h1 : (1 : Int) ≤ (x.length : Int)
      · refine if_posB (decide_eq_true h1) ⟨_, 8, rfl, rfl, _, rfl, ?_⟩
        by_cases h2 : (x.length : Int) ≤ 8
        · refine if_negB (by rw [decide_eq_true h2]; rfl) ?_
          show tLc (iStr (tVar 0)) (gName 1) tYes teLet [1] (L2.start scFix_N [.str x]) H fun r H1 => rAll K [r] H1 Q
          refine lets_read (by simp [L2.start]) (by intro v; simp [wipe, L2.start]) (by intro v; simp [wipe, L2.start]) hz fun r H' s' R => ⟨r, _, rfl, SqL.of R, ?_⟩
          have e : isFixB x = (x.cps.toList.map letB).all id := by
            unfold isFixB
            rw [decide_eq_true h1, decide_eq_true h2, Bool.true_and, Bool.true_and, List.all_map]
            rfl
          rw [← e]
          exact k H' s'
        · refine if_posB (by rw [decide_eq_false h2]; rfl) ?_
          have e : isFixB x = false := by
            unfold isFixB
            rw [decide_eq_false h2, Bool.false_and, Bool.and_false]
          rw [e] at k
          exact k H (fun _ _ z => z)
      · refine if_negB (decide_eq_false h1) ⟨_, rfl, if_posB rfl ?_⟩
        have e : isFixB x = false := by
          unfold isFixB
          rw [decide_eq_false h1, Bool.false_and]
        rw [e] at k
        exact k H (fun _ _ z => z)
    · exact ⟨v, rfl, v, .ty "str", _, _, false, rfl, .ty _, ht, h1, false, rfl, if_posB rfl (if_posB rfl k)⟩
end
end K8
set_option Elab.async false
set_option linter.all false
set_option maxRecDepth 100000
set_option maxHeartbeats 4000000
/-! Own exception classes whose __init__ keeps its one or two parameters as fields: made by position and by name. -/
namespace EI
open PySem PySem.Spec PyProof.Rows L2 EV He EF
/-- an error laid anew at a, its dict at d -/
def mkE (H : Hp) (a d C : Addr) (fs : List (Str × V)) : Hp := upd (upd H d (exd d fs)) a (exo a C (some d))
theorem mkE_at {H : Hp} {a d C : Addr} {fs : List (Str × V)} (h : d ≠ a) : ErrAt (mkE H a d C fs) a C d fs :=
  ⟨upd_same, by
    unfold mkE
    rw [upd_ne h, upd_same]⟩
theorem mkE_same {H : Hp} {a d C : Addr} {fs : List (Str × V)} (na : H a = none) (nd : H d = none) : Same H (mkE H a d C fs) := fun b o e => by
  unfold mkE
  rw [upd_ne (ne_of_none e na), upd_ne (ne_of_none e nd)]
  exact e
theorem _root_.EV.ErrAt.same {H H' : Hp} {a C d : Addr} {fs : List (Str × V)} (r : ErrAt H a C d fs) (k : Same H H') : ErrAt H' a C d fs := ⟨k _ _ r.ob, k _ _ r.dc⟩
theorem _root_.EV.IsErr.same {H H' : Hp} {a C : Addr} (r : IsErr H a C) (k : Same H H') : IsErr H' a C := by
  rcases r with ⟨d, fs, r⟩ | r
  · exact .inl ⟨d, fs, r.same k⟩
  · exact .inr (k _ _ r)
theorem mk1_eq {H : Hp} {a d C : Addr} {fs : List (Str × V)} {o : HO} (h : d ≠ a) : upd (upd (upd H a o) d (exd d fs)) a (exo a C (some d)) = mkE H a d C fs := by
  funext b
  unfold mkE
  by_cases e : b = a
  · rw [e, upd_same, upd_same]
  · rw [upd_ne e, upd_ne e]
    by_cases e2 : b = d
    · rw [e2, upd_same, upd_same]
    · rw [upd_ne e2, upd_ne e2, upd_ne e]
theorem mk2_eq {H : Hp} {a d C : Addr} {fs gs : List (Str × V)} {o : HO} (h : d ≠ a) : upd (upd (upd (upd H a o) d (exd d fs)) a (exo a C (some d))) d (exd d gs) = mkE H a d C gs := by
  funext b
  unfold mkE
  by_cases e2 : b = d
  · rw [e2, upd_same, upd_ne h, upd_same]
  · rw [upd_ne e2]
    by_cases e : b = a
    · rw [e, upd_same, upd_same]
    · rw [upd_ne e, upd_ne e, upd_ne e2, upd_ne e2, upd_ne e]
def spE1 (C : Addr) (f : Str) : Sp := fun vs H Q _ => ∃ (a : Addr) (v : V), vs = [.ref a, v] ∧ H a = some (exo a C none) ∧
  ∀ d, H d = none → d ≠ a → Q .non (upd (upd H d (exd d [(f, v)])) a (exo a C (some d)))
def spE2 (C : Addr) (f g : Str) : Sp := fun vs H Q _ => ∃ (a : Addr) (v w : V), vs = [.ref a, v, w] ∧ H a = some (exo a C none) ∧
  ∀ d, H d = none → d ≠ a → Q .non (upd (upd (upd H d (exd d [(f, v)])) a (exo a C (some d))) d (exd d [(g, w), (f, v)]))
/-- the body `self.f = f` -/
structure Body1 (st : Stmt) (f : Str) : Prop where
  bd : ∃ q1 q2 q3 q4, defBody st = [.Assign [.Attribute (.Name "self" q1) f q2] (.Name f q3) q4]
  sc : defScope st = { kind := .function, names := [("self", .local), (f, .local)], isGenerator := false, isCoroutine := false, more := [] }
  kb : ∀ (qual : Str) (kV doc pm : Value) (an : Option Addr) (cdv ct a v : Value), bindArgs (PySem.W.fnOf "__init__" qual (defArgs st) (defBody st) (defScope st) .none kV doc pm an cdv ct) ⟨[a], [(f, v)]⟩ = pure [(("self" : Str), a), (f, v)]
  pb : ∀ (qual : Str) (kV doc pm : Value) (an : Option Addr) (cdv ct a v : Value), bindArgs (PySem.W.fnOf "__init__" qual (defArgs st) (defBody st) (defScope st) .none kV doc pm an cdv ct) ⟨[a, v], []⟩ = pure [(("self" : Str), a), (f, v)]
  ne : f ≠ "self"
  n1 : (f == ("__debug__" : Str)) = false
  n2 : (f == ("__classdict__" : Str)) = false
section
variable {P : Program} {w : World} {K : PySem.W.Frag} {mg : Str → Option Value} {base : Heap} {fI : Addr} {fd : FuncData} {C : Addr} {f g qual : Str} {st : Stmt}
theorem sc1 (B : Body1 st f) : FnScope ["self", f] ["self", f] (defScope st) := by
  rw [B.sc]
  refine ⟨rfl, rfl, rfl, ?_, rfl, ?_, by simp⟩
  · simp [B.ne.symm]
  · intro x hx
    rcases List.mem_cons.mp hx with rfl | hx
    · exact .inl rfl
    · rcases List.mem_cons.mp hx with rfl | hx
      · refine .inl ?_
        show List.lookup x [(("self" : Str), NameKind.local), (x, NameKind.local)] = _
        have e : (x == ("self" : Str)) = false := by simpa using B.ne
        simp [List.lookup, e]
      · cases hx
theorem vis1 (B : Body1 st f) : Vis (defScope st) f := by
  have := (sc1 B).par f (by simp)
  rcases this with h | h
  · exact .inl h
  · exact .inr (.inl h)
theorem vis0 (B : Body1 st f) : Vis (defScope st) "self" := by
  rw [B.sc]
  exact .inl rfl
theorem ok_init1 (F : FunD K "__init__" qual (defArgs st) (defBody st) (defScope st) [] [] fI fd) (B : Body1 st f) (T : OexC K C) (no : PySem.W.findIn K (.ref C) f = some none) :
    FnOk P w K mg base CX0 1 fI fd ["self", f] (spE1 C f) := by
  refine F.ok (sc1 B) (fun vs H Q E h => ?_) (fun cdv A outer s H vs Q E hr h => ?_)
  · obtain ⟨a, v, rfl, _⟩ := h
    rfl
  · obtain ⟨a, v, rfl, ha, k⟩ := h
    obtain ⟨q1, q2, q3, q4, eb⟩ := B.bd
    rw [eb]
    refine ⟨_, PSs.nox (pss_one (ps_ost (pe_var (i := 0) rfl (vis0 B)) (pe_var (i := 1) rfl (vis1 B) B.n1 B.n2))), ?_⟩
    exact ⟨v, rfl, _, rfl, a, C, rfl, T, no, .inl ⟨ha, fun d hd ne => k d hd ne⟩⟩
/-- how a call binds -/
theorem kw1 (F : FunD K "__init__" qual (defArgs st) (defBody st) (defScope st) [] [] fI fd) (B : Body1 st f) (s : Shared) (a v : Value) : BindsTo s fd ⟨[a], [(f, v)]⟩ [(("self" : Str), a), (f, v)] := by
  obtain ⟨oc, od, dV, kV, doc, pm, an, cdv, ct, osl, rfl, lk, hcd, hD, hK⟩ := F.ex
  rcases hD with ⟨_, rfl⟩ | ⟨e, _⟩
  · exact .of_eq (B.kb _ _ _ _ _ _ _ _ _)
  · exact absurd rfl e
theorem pos1 (F : FunD K "__init__" qual (defArgs st) (defBody st) (defScope st) [] [] fI fd) (B : Body1 st f) : Binds K fd ["self", f] [] :=
  F.bindsN fun _ _ _ _ _ _ us hl => match us, hl with | [_, _], _ => B.pb _ _ _ _ _ _ _ _ _
end
/-- what is known of such a class x with the field f -/
structure Cl1 (P : Program) (w : World) (K : PySem.W.Frag) (mg : Str → Option Value) (base : Heap) (x f : Str) (bs : List Str) : Prop where
  e : ErrK K x bs
  mkr : ∃ (fI : Addr) (fd : FuncData), PySem.W.findIn K (.ref (ga K x)) "__init__" = some (some (.ref fI)) ∧ PySem.W.typeIn K (.ref fI) = some (.type "function") ∧
    FnOk P w K mg base CX0 1 fI fd ["self", f] (spE1 (ga K x) f) ∧ Binds K fd ["self", f] [] ∧ ∀ (s : Shared) (a v : Value), BindsTo s fd ⟨[a], [(f, v)]⟩ [(("self" : Str), a), (f, v)]
  no : PySem.W.findIn K (.ref (ga K x)) f = some none
  gl : mg x = some (.ref (ga K x))
/-- x(e) | x(f = e): a new error -/
def tE1 (C : Addr) (f : Str) (te : TE) : TE := fun σ H Q => te σ H fun v H1 => ∀ a d, H1 a = none → H1 d = none → d ≠ a → Q (.ref a) (mkE H1 a d C [(f, v)])
def wE1 (C : Addr) (f : Str) (Q : VK) : List V → Hp → Prop := fun vs H1 => match vs with
  | [v] => ∀ a d, H1 a = none → H1 d = none → d ≠ a → Q (.ref a) (mkE H1 a d C [(f, v)])
  | _ => False
theorem wE1_of {C : Addr} {f : Str} {Q : VK} : ∀ {vs : List V} {H1 : Hp}, wE1 C f Q vs H1 → ∃ v, vs = [v] ∧ ∀ a d, H1 a = none → H1 d = none → d ≠ a → Q (.ref a) (mkE H1 a d C [(f, v)])
  | [v], _, h => ⟨v, rfl, h⟩
  | [], _, h => h.elim
  | _ :: _ :: _, _, h => h.elim
section
variable {X : Cx} {x f : Str} {bs : List Str} {e : Expr} {te : TE} {p pos kpos : Pos} {k : Nat}
theorem tE1_to {C : Addr} {f : Str} {H1 : Hp} {v : V} {Q : VK} (q : ∀ a d, H1 a = none → H1 d = none → d ≠ a → Q (.ref a) (mkE H1 a d C [(f, v)])) (a : Addr) (ha : H1 a = none) :
    spE1 C f [.ref a, v] (upd H1 a (exo a C none)) (fun u H2 => u = .non ∧ Q (.ref a) H2) E0 := by
  refine ⟨a, v, rfl, upd_same, fun d hd ne => ⟨rfl, ?_⟩⟩
  rw [upd_ne ne] at hd
  rw [mk1_eq ne]
  exact q a d ha hd ne
theorem pe_e1 (T : Cl1 X.prog X.w X.K X.mg X.base x f bs) (hr : Room 2 X.A) (hc : Passes CX0 X E0) (hg : Gl X x) (he : PE X e te)
    (hdb : (x == ("__debug__" : Str)) = false := by decide) (hs : starEach [e] X.env = (false, eval e X.env) :: starEach [] X.env := by rfl)
    (hpl : (backTo pos (starEach [] X.env)).any (·.1) = false := by rfl) : PE X (.Call (.Name x p) [e] [] pos) (tE1 (ga X.K x) f te) := by
  obtain ⟨fI, fd, iC, tI, F1, b1, _⟩ := T.mkr
  refine ⟨fun pins s σ H Q I h => ?_⟩
  refine wpAny_Call_Name_kw (ld_glob I hg T.gl ?_ hdb)
  refine PySem.W.callWith_K (h₀ := X.base) I.ok.mod.kin T.e.ox.kC (thn ((pa_cons he pa_nil (hs := hs)).run pos pins s σ H (wE1 (ga X.K x) f Q) I h) fun us s1 ⟨vs, H1, I1, r1, q1⟩ => ⟨I1.kIn, ?_⟩) hs hpl
  obtain ⟨v, rfl, q⟩ := wE1_of q1
  show wpAny _ _ (call (.ref (ga X.K x)) us) _ _ _
  refine run_err T.e.ox iC tI F1 hr (fun s' a X' => ?_) hc I1 r1 ?_ (fun a ha => tE1_to q a ha)
  · have hl : us.length = 1 := r1.length.symm
    have z := b1 s' (.ref a :: us) X' (by rw [List.append_nil, List.length_cons, hl]; rfl)
    rw [List.append_nil] at z
    exact z
  · rw [← r1.length, sizeLine_eq]
    exact (by decide : 1 ≤ 16777216)
theorem pe_e1K (T : Cl1 X.prog X.w X.K X.mg X.base x f bs) (hr : Room 2 X.A) (hc : Passes CX0 X E0) (hg : Gl X x) (he : PE X e te)
    (hall : (backToKw pos (keywordEach [⟨some f, e, kpos⟩] X.env)).all (·.1.isSome) = true := by rfl)
    (hks : (backToKw pos (keywordEach [⟨some f, e, kpos⟩] X.env)).filterMap (·.1) = [f] := by rfl)
    (hdb : (x == ("__debug__" : Str)) = false := by decide)
    (hpl : ((backTo pos (starEach [] X.env)).any (·.1) || (backToKw pos (keywordEach [⟨some f, e, kpos⟩] X.env)).any (·.1.isNone)) = false := by rfl) :
    PE X (.Call (.Name x p) [] [⟨some f, e, kpos⟩] pos) (tE1 (ga X.K x) f te) := by
  obtain ⟨fI, fd, iC, tI, F1, b1, bk⟩ := T.mkr
  refine ⟨fun pins s σ H Q I h => ?_⟩
  refine wpAny_Call_Name_kw (ld_glob I hg T.gl ?_ hdb)
  refine PySem.W.callWith_KW0 (h₀ := X.base) I.ok.mod.kin T.e.ox.kC hall ?_ hpl
  refine thn ((pk_cons he pk_nil).run pos pins s σ H (wE1 (ga X.K x) f Q) I h) fun ws s2 ⟨zs, H2, I2, rz, q2⟩ => ⟨I2.kIn, ?_⟩
  rw [hks]
  obtain ⟨v, rfl, q⟩ := wE1_of q2
  refine run_err T.e.ox iC tI F1 hr (fun s' a X' => ?_) hc I2 rz (Nat.zero_le _) (fun a ha => tE1_to q a ha)
  cases rz with
  | cons r1 r2 =>
    cases r2
    exact bk s' _ _
end
/-! ### two fields -/
/-- the body `self.f = f; self.g = g` -/
structure Body2 (st : Stmt) (f g : Str) : Prop where
  bd : ∃ q1 q2 q3 q4 r1 r2 r3 r4, defBody st = [.Assign [.Attribute (.Name "self" q1) f q2] (.Name f q3) q4, .Assign [.Attribute (.Name "self" r1) g r2] (.Name g r3) r4]
  sc : FnScope ["self", f, g] ["self", f, g] (defScope st)
  v0 : Vis (defScope st) "self"
  v1 : Vis (defScope st) f
  v2 : Vis (defScope st) g
  kb : ∀ (qual : Str) (kV doc pm : Value) (an : Option Addr) (cdv ct a v w : Value), bindArgs (PySem.W.fnOf "__init__" qual (defArgs st) (defBody st) (defScope st) .none kV doc pm an cdv ct) ⟨[a], [(g, w), (f, v)]⟩ = pure [(("self" : Str), a), (f, v), (g, w)]
  pb : ∀ (qual : Str) (kV doc pm : Value) (an : Option Addr) (cdv ct a v w : Value), bindArgs (PySem.W.fnOf "__init__" qual (defArgs st) (defBody st) (defScope st) .none kV doc pm an cdv ct) ⟨[a, v, w], []⟩ = pure [(("self" : Str), a), (f, v), (g, w)]
  n1 : (f == ("__debug__" : Str)) = false
  n2 : (f == ("__classdict__" : Str)) = false
  n3 : (g == ("__debug__" : Str)) = false
  n4 : (g == ("__classdict__" : Str)) = false
section
variable {P : Program} {w : World} {K : PySem.W.Frag} {mg : Str → Option Value} {base : Heap} {fI : Addr} {fd : FuncData} {C : Addr} {f g qual : Str} {st : Stmt}
theorem ok_init2 (F : FunD K "__init__" qual (defArgs st) (defBody st) (defScope st) [] [] fI fd) (B : Body2 st f g) (T : OexC K C) (no : PySem.W.findIn K (.ref C) f = some none) (no2 : PySem.W.findIn K (.ref C) g = some none) :
    FnOk P w K mg base CX0 1 fI fd ["self", f, g] (spE2 C f g) := by
  refine F.ok B.sc (fun vs H Q E h => ?_) (fun cdv A outer s H vs Q E hr h => ?_)
  · obtain ⟨a, v, u, rfl, _⟩ := h
    rfl
  · obtain ⟨a, v, u, rfl, ha, k⟩ := h
    obtain ⟨q1, q2, q3, q4, r1, r2, r3, r4, eb⟩ := B.bd
    rw [eb]
    refine ⟨_, PSs.nox (pss_cons (ps_ost (pe_var (i := 0) rfl B.v0) (pe_var (i := 1) rfl B.v1 B.n1 B.n2)) (pss_one (ps_ost (pe_var (i := 0) rfl B.v0) (pe_var (i := 2) rfl B.v2 B.n3 B.n4)))), ?_⟩
    refine ⟨v, rfl, _, rfl, a, C, rfl, T, no, .inl ⟨ha, fun d hd ne => ?_⟩⟩
    exact ⟨u, rfl, _, rfl, a, C, rfl, T, no2, .inr ⟨d, _, upd_same, by rw [upd_ne ne, upd_same], (by show 1 ≤ 900; decide), k d hd ne⟩⟩
theorem kw2 (F : FunD K "__init__" qual (defArgs st) (defBody st) (defScope st) [] [] fI fd) (B : Body2 st f g) (s : Shared) (a v u : Value) : BindsTo s fd ⟨[a], [(g, u), (f, v)]⟩ [(("self" : Str), a), (f, v), (g, u)] := by
  obtain ⟨oc, od, dV, kV, doc, pm, an, cdv, ct, osl, rfl, lk, hcd, hD, hK⟩ := F.ex
  rcases hD with ⟨_, rfl⟩ | ⟨e, _⟩
  · exact .of_eq (B.kb _ _ _ _ _ _ _ _ _ _)
  · exact absurd rfl e
theorem pos2 (F : FunD K "__init__" qual (defArgs st) (defBody st) (defScope st) [] [] fI fd) (B : Body2 st f g) : Binds K fd ["self", f, g] [] :=
  F.bindsN fun _ _ _ _ _ _ us hl => match us, hl with | [_, _, _], _ => B.pb _ _ _ _ _ _ _ _ _ _
end
structure Cl2 (P : Program) (w : World) (K : PySem.W.Frag) (mg : Str → Option Value) (base : Heap) (x f g : Str) (bs : List Str) : Prop where
  e : ErrK K x bs
  mkr : ∃ (fI : Addr) (fd : FuncData), PySem.W.findIn K (.ref (ga K x)) "__init__" = some (some (.ref fI)) ∧ PySem.W.typeIn K (.ref fI) = some (.type "function") ∧
    FnOk P w K mg base CX0 1 fI fd ["self", f, g] (spE2 (ga K x) f g) ∧ Binds K fd ["self", f, g] [] ∧ ∀ (s : Shared) (a v u : Value), BindsTo s fd ⟨[a], [(g, u), (f, v)]⟩ [(("self" : Str), a), (f, v), (g, u)]
  no : PySem.W.findIn K (.ref (ga K x)) f = some none
  no2 : PySem.W.findIn K (.ref (ga K x)) g = some none
  gl : mg x = some (.ref (ga K x))
def wE2 (C : Addr) (f g : Str) (Q : VK) : List V → Hp → Prop := fun vs H1 => match vs with
  | [v, u] => ∀ a d, H1 a = none → H1 d = none → d ≠ a → Q (.ref a) (mkE H1 a d C [(g, u), (f, v)])
  | _ => False
theorem wE2_of {C : Addr} {f g : Str} {Q : VK} : ∀ {vs : List V} {H1 : Hp}, wE2 C f g Q vs H1 → ∃ v u, vs = [v, u] ∧ ∀ a d, H1 a = none → H1 d = none → d ≠ a → Q (.ref a) (mkE H1 a d C [(g, u), (f, v)])
  | [v, u], _, h => ⟨v, u, rfl, h⟩
  | [], _, h => h.elim
  | [_], _, h => h.elim
  | _ :: _ :: _ :: _, _, h => h.elim
section
variable {X : Cx} {x f g : Str} {bs : List Str} {e e2 : Expr} {te te2 : TE} {p pos kpos kpos2 : Pos} {k : Nat}
theorem tE2_to {C : Addr} {f g : Str} {H1 : Hp} {v u : V} {Q : VK} (q : ∀ a d, H1 a = none → H1 d = none → d ≠ a → Q (.ref a) (mkE H1 a d C [(g, u), (f, v)])) (a : Addr) (ha : H1 a = none) :
    spE2 C f g [.ref a, v, u] (upd H1 a (exo a C none)) (fun z H2 => z = .non ∧ Q (.ref a) H2) E0 := by
  refine ⟨a, v, u, rfl, upd_same, fun d hd ne => ⟨rfl, ?_⟩⟩
  rw [upd_ne ne] at hd
  rw [mk2_eq ne]
  exact q a d ha hd ne
/-- x(e, e2) -/
theorem pe_e2 (T : Cl2 X.prog X.w X.K X.mg X.base x f g bs) (hr : Room 2 X.A) (hc : Passes CX0 X E0) (hg : Gl X x) (he : PE X e te) (he2 : PE X e2 te2)
    (hdb : (x == ("__debug__" : Str)) = false := by decide) (hs : starEach [e, e2] X.env = (false, eval e X.env) :: starEach [e2] X.env := by rfl) (hs2 : starEach [e2] X.env = (false, eval e2 X.env) :: starEach [] X.env := by rfl)
    (hpl : (backTo pos (starEach [e2] X.env)).any (·.1) = false := by rfl) :
    PE X (.Call (.Name x p) [e, e2] [] pos) (fun σ H Q => te σ H fun v H1 => te2 σ H1 fun u H2 => wE2 (ga X.K x) f g Q [v, u] H2) := by
  obtain ⟨fI, fd, iC, tI, F1, b1, _⟩ := T.mkr
  refine ⟨fun pins s σ H Q I h => ?_⟩
  refine wpAny_Call_Name_kw (ld_glob I hg T.gl ?_ hdb)
  refine PySem.W.callWith_K (h₀ := X.base) I.ok.mod.kin T.e.ox.kC (thn ((pa_cons he (pa_cons he2 pa_nil (hs := hs2)) (hs := hs)).run pos pins s σ H (wE2 (ga X.K x) f g Q) I h) fun us s1 ⟨vs, H1, I1, r1, q1⟩ => ⟨I1.kIn, ?_⟩) hs hpl
  obtain ⟨v, u, rfl, q⟩ := wE2_of q1
  show wpAny _ _ (call (.ref (ga X.K x)) us) _ _ _
  refine run_err T.e.ox iC tI F1 hr (fun s' a X' => ?_) hc I1 r1 ?_ (fun a ha => tE2_to q a ha)
  · have hl : us.length = 2 := r1.length.symm
    have z := b1 s' (.ref a :: us) X' (by rw [List.append_nil, List.length_cons, hl]; rfl)
    rw [List.append_nil] at z
    exact z
  · rw [← r1.length, sizeLine_eq]
    exact (by decide : 2 ≤ 16777216)
/-- x(g = e, f = e2) -/
theorem pe_e2K (T : Cl2 X.prog X.w X.K X.mg X.base x f g bs) (hr : Room 2 X.A) (hc : Passes CX0 X E0) (hg : Gl X x) (he : PE X e te) (he2 : PE X e2 te2)
    (hall : (backToKw pos (keywordEach [⟨some g, e, kpos⟩, ⟨some f, e2, kpos2⟩] X.env)).all (·.1.isSome) = true := by rfl)
    (hks : (backToKw pos (keywordEach [⟨some g, e, kpos⟩, ⟨some f, e2, kpos2⟩] X.env)).filterMap (·.1) = [g, f] := by rfl)
    (hdb : (x == ("__debug__" : Str)) = false := by decide)
    (hpl : ((backTo pos (starEach [] X.env)).any (·.1) || (backToKw pos (keywordEach [⟨some g, e, kpos⟩, ⟨some f, e2, kpos2⟩] X.env)).any (·.1.isNone)) = false := by rfl) :
    PE X (.Call (.Name x p) [] [⟨some g, e, kpos⟩, ⟨some f, e2, kpos2⟩] pos) (fun σ H Q => te σ H fun u H1 => te2 σ H1 fun v H2 => wE2 (ga X.K x) f g Q [v, u] H2) := by
  obtain ⟨fI, fd, iC, tI, F1, b1, bk⟩ := T.mkr
  refine ⟨fun pins s σ H Q I h => ?_⟩
  refine wpAny_Call_Name_kw (ld_glob I hg T.gl ?_ hdb)
  refine PySem.W.callWith_KW0 (h₀ := X.base) I.ok.mod.kin T.e.ox.kC hall ?_ hpl
  refine thn ((pk_cons he (pk_cons he2 pk_nil)).run pos pins s σ H (fun zs H2 => match zs with
    | [u, v] => wE2 (ga X.K x) f g Q [v, u] H2
    | _ => False) I h) fun ws s2 ⟨zs, H2, I2, rz, q2⟩ => ⟨I2.kIn, ?_⟩
  rw [hks]
  cases rz with
  | nil => exact q2.elim
  | cons r1 rz => cases rz with
    | nil => exact q2.elim
    | cons r2 rz => cases rz with
      | cons r3 rz => exact q2.elim
      | nil =>
        obtain ⟨v, u, e, q⟩ := wE2_of q2
        cases e
        exact run_err T.e.ox iC tI F1 hr (fun s' a X' => bk s' _ _ _) hc I2 (.cons r2 (.cons r1 .nil)) (Nat.zero_le _) (fun a ha => tE2_to q a ha)
end
end EI
set_option Elab.async false
set_option linter.all false
set_option maxRecDepth 100000
set_option maxHeartbeats 1000000
/-! What the head's facts say of the row: errors, deeds, the defs. -/
namespace K8
open PySem PySem.Spec PyProof.Rows L2 RV EV He EF EI
abbrev gW (K : PySem.W.Frag) : Addr := ga K "Words"
abbrev gD (K : PySem.W.Frag) : Addr := ga K "Deed"
abbrev gT (K : PySem.W.Frag) : Addr := ga K "BadText"
abbrev gO (K : PySem.W.Frag) : Addr := ga K "Lot"
/-- the __init__ of a deed's class, as it stands -/
abbrev IniD (K : PySem.W.Frag) (q : Str × Nat) (fd : FuncData) : Prop := FunD K "__init__" (q.1 ++ ".__init__") (defArgs (iSt q.2)) (defBody (iSt q.2)) (defScope (iSt q.2)) ((dMk q).dvs K) ((dMk q).kws K) (ma K (ga K q.1) "__init__") fd
structure KF (P : Program) (w : World) (K : PySem.W.Frag) (mg : Str → Option Value) (base : Heap) : Prop where
  fr : ∀ x ∈ freesN, mg x = none
  ek : ∀ q ∈ errsN, ErrK K q.1 q.2
  gl : ∀ q ∈ errsN, mg q.1 = some (.ref (ga K q.1))
  bd : Cl1 P w K mg base "BadDeed" "at" bT
  bf : Cl1 P w K mg base "BadFix" "value" bT
  nd : Cl1 P w K mg base "NoDay" "day" bT
  nl : Cl1 P w K mg base "NoLine" "line" bT
  tops : ∀ q ∈ topsN, ∃ fd, FnP K q.1 (top q.2) (ga K q.1) fd ∧ mg q.1 = some (.ref (ga K q.1))
  topd : ∀ q ∈ topsD, ∃ fd, FunD K q.1 q.1 (defArgs (top q.2)) (defBody (top q.2)) (defScope (top q.2)) [.int 1] [] (ga K q.1) fd ∧ mg q.1 = some (.ref (ga K q.1))
  gk : ∀ q ∈ mkN, mg q.1 = some (.ref (ga K q.1)) ∧ Cls K (ga K q.1) ∧ Mk K (ga K q.1) (ma K (ga K q.1) "__init__")
  ik : ∀ q ∈ mkN, ∃ fd, IniD K q fd
  no : ∀ q ∈ noN, NoAttr K (ga K q.1) q.2
  iL : ∃ t, mg "LINES" = some (.int 6 t)
  iD : ∃ t, mg "DAYS" = some (.int 200 t)
  gc : mg "Cut" = some (.ref (ga K "Cut"))
  cc : Cls K (ga K "Cut")
  kc : PySem.W.keepIn K (.ref (ga K "Cut")) = true
  nmd : ∀ q ∈ namedN, Meth K (ga K q.1) "named" (ma K (ga K q.1) "named") ∧ ∃ fd, FunD K "named" (q.2.1 ++ "." ++ "named") (defArgs (cSt q)) (defBody (cSt q)) (defScope (cSt q)) [] [] (ma K (ga K q.1) "named") fd
  stp : ∀ q ∈ stopN, Meth K (ga K q.1) "stop" (ma K (ga K q.1) "stop") ∧ ∃ fd, FunD K "stop" (q.2.1 ++ "." ++ "stop") (defArgs (cSt q)) (defBody (cSt q)) (defScope (cSt q)) [] [] (ma K (ga K q.1) "stop") fd
  strm : ∀ q ∈ strN, Meth K (ga K q.1) "__str__" (ma K (ga K q.1) "__str__") ∧ ∃ fd, FunD K "__str__" (q.2.1 ++ "." ++ "__str__") (defArgs (cSt q)) (defBody (cSt q)) (defScope (cSt q)) [] [] (ma K (ga K q.1) "__str__") fd
  eqm : ∀ q ∈ eqN, Meth K (ga K q.1) "__eq__" (ma K (ga K q.1) "__eq__") ∧ ∃ fd, FunD K "__eq__" (q.2.1 ++ "." ++ "__eq__") (defArgs (cSt q)) (defBody (cSt q)) (defScope (cSt q)) [] [] (ma K (ga K q.1) "__eq__") fd
  olm : ∀ q ∈ olN, Meth K (ga K q.1) "own_lines" (ma K (ga K q.1) "own_lines") ∧ ∃ fd, FunD K "own_lines" (q.2.1 ++ "." ++ "own_lines") (defArgs (cSt q)) (defBody (cSt q)) (defScope (cSt q)) [] [] (ma K (ga K q.1) "own_lines") fd
  odm : ∀ q ∈ odN, Meth K (ga K q.1) "own_days" (ma K (ga K q.1) "own_days") ∧ ∃ fd, FunD K "own_days" (q.2.1 ++ "." ++ "own_days") (defArgs (cSt q)) (defBody (cSt q)) (defScope (cSt q)) [] [] (ma K (ga K q.1) "own_days") fd
  ofm : ∀ q ∈ ofN, Meth K (ga K q.1) "own_fixes" (ma K (ga K q.1) "own_fixes") ∧ ∃ fd, FunD K "own_fixes" (q.2.1 ++ "." ++ "own_fixes") (defArgs (cSt q)) (defBody (cSt q)) (defScope (cSt q)) [] [] (ma K (ga K q.1) "own_fixes") fd
  nlm : ∀ q ∈ nlN, Meth K (ga K q.1) "named_lines" (ma K (ga K q.1) "named_lines") ∧ ∃ fd, FunD K "named_lines" (q.2.1 ++ "." ++ "named_lines") (defArgs (cSt q)) (defBody (cSt q)) (defScope (cSt q)) [] [] (ma K (ga K q.1) "named_lines") fd
  str : ∀ q ∈ kindN, Meth K (ga K q.1) "__str__" (ma K (ga K q.1) "__str__") ∧ ∃ fd, FunD K "__str__" "Deed.__str__" (defArgs (dSt 3)) (defBody (dSt 3)) (defScope (dSt 3)) [] [] (ma K (ga K q.1) "__str__") fd
  mid : ∀ x ∈ midL, mg x = some (.ref (ga K x))
  nb8 : newB8 K = true
  bl : Cl1 P w K mg base "BadLot" "part" bT
  tm : Cl2 P w K mg base "TooMany" "what" "most" bM
  go : mg "Lot" = some (.ref (gO K))
  clo : Cls K (gO K)
  mko : Mk K (gO K) (ma K (gO K) "__init__")
  noF : NoAttr K (gO K) "fixes"
  lot : ∀ q ∈ lotN, Meth K (gO K) q.1 (ma K (gO K) q.1) ∧ ∃ fd, FunD K q.1 ("Lot." ++ q.1) (defArgs (lSt q.2)) (defBody (lSt q.2)) (defScope (lSt q.2)) [] [] (ma K (gO K) q.1) fd
  fo : ∃ fd, FunD K "of" "Lot.of" (defArgs (lSt 2)) (defBody (lSt 2)) (defScope (lSt 2)) [] [] (He5.wf K (gO K) "staticmethod" "of") fd
  l1 : lotB1 K (gO K) = true
  l2 : lotB2 K (gO K) = true
  l3 : lotB3 K (gO K) = true
  l4 : lotB4 K (gO K) = true
  l5 : lotB5 K (gO K) = true
  knd : ∀ q ∈ kindN, kindB K q.1 q.2 = true
  gdd : mg "Deed" = some (.ref (gD K))
  ddb : deedB K = true
  frd : ∃ fd, FunD K "read" "Deed.read" (defArgs (dSt 2)) (defBody (dSt 2)) (defScope (dSt 2)) [] [] (He5.wf K (gD K) "staticmethod" "read") fd
  tx : Cl2 P w K mg base "BadText" "line" "word" bT
  gw : mg "Words" = some (.ref (gW K))
  cl : Cls K (gW K)
  mkr : Mk K (gW K) (ma K (gW K) "__init__")
  noP : NoAttr K (gW K) "parts"
  noL : NoAttr K (gW K) "line"
  noT : NoAttr K (gW K) "taken"
  meth : ∀ q ∈ methN, Meth K (gW K) q.1 (ma K (gW K) q.1) ∧ ∃ fd, FunD K q.1 ("Words." ++ q.1) (defArgs (wSt q.2)) (defBody (wSt q.2)) (defScope (wSt q.2)) [] [] (ma K (gW K) q.1) fd
  ini : ∃ fd, FunD K "__init__" "Words.__init__" (defArgs (wSt 0)) (defBody (wSt 0)) (defScope (wSt 0)) [.int 0] [] (ma K (gW K) "__init__") fd
  nb : BMeth K (gW K) "is_next" (ma K (gW K) "is_next")
  nbt : BMeth K (gW K) "take" (ma K (gW K) "take")
  cut : cutB K = true
  xT : ∀ q ∈ errsN, PySem.W.exmOne K (.ref (ga K q.1)) (.ref (ga K "BadText")) = some (decide (q.1 = "BadText"))
  ob : objB K = true
  ea : (errsN.map fun q => ga K q.1).Nodup
theorem b_deed : Body1 (inClass (top 11) 0) "at" := ⟨⟨_, _, _, _, rfl⟩, rfl, fun _ _ _ _ _ _ _ _ _ => rfl, fun _ _ _ _ _ _ _ _ _ => rfl, by decide, by decide, by decide⟩
theorem b_fix : Body1 (inClass (top 12) 0) "value" := ⟨⟨_, _, _, _, rfl⟩, rfl, fun _ _ _ _ _ _ _ _ _ => rfl, fun _ _ _ _ _ _ _ _ _ => rfl, by decide, by decide, by decide⟩
theorem b_day : Body1 (inClass (top 15) 0) "day" := ⟨⟨_, _, _, _, rfl⟩, rfl, fun _ _ _ _ _ _ _ _ _ => rfl, fun _ _ _ _ _ _ _ _ _ => rfl, by decide, by decide, by decide⟩
theorem b_line : Body1 (inClass (top 16) 0) "line" := ⟨⟨_, _, _, _, rfl⟩, rfl, fun _ _ _ _ _ _ _ _ _ => rfl, fun _ _ _ _ _ _ _ _ _ => rfl, by decide, by decide, by decide⟩
theorem b_text : Body2 (inClass (top 14) 0) "line" "word" :=
  ⟨⟨_, _, _, _, _, _, _, _, rfl⟩, ⟨rfl, rfl, rfl, by decide +kernel, rfl, by decide +kernel, by decide +kernel⟩, .inl rfl, .inl rfl, .inl rfl, fun _ _ _ _ _ _ _ _ _ _ => rfl, fun _ _ _ _ _ _ _ _ _ _ => rfl, by decide, by decide, by decide, by decide⟩
theorem b_lot : Body1 (inClass (top 13) 0) "part" := ⟨⟨_, _, _, _, rfl⟩, rfl, fun _ _ _ _ _ _ _ _ _ => rfl, fun _ _ _ _ _ _ _ _ _ => rfl, by decide, by decide, by decide⟩
theorem b_many : Body2 (inClass (top 17) 0) "what" "most" :=
  ⟨⟨_, _, _, _, _, _, _, _, rfl⟩, ⟨rfl, rfl, rfl, by decide +kernel, rfl, by decide +kernel, by decide +kernel⟩, .inl rfl, .inl rfl, .inl rfl, fun _ _ _ _ _ _ _ _ _ _ => rfl, fun _ _ _ _ _ _ _ _ _ _ => rfl, by decide, by decide, by decide, by decide⟩
theorem sub_dU : ∀ p ∈ mtsN, ∀ q ∈ p.2, ((p.1, q.2) : Str × Str × Nat × Nat) ∈ dUN := by decide +kernel
theorem kf {P : Program} {w : World} {K : PySem.W.Frag} {h h' : Heap} {mg : Str → Option Value} (X : K.In h) (G : h.Ns mainGlobals mg) (cy : SaysY w h' K) (base : Heap) : KF P w K mg base := by
  have c := cy.x
  have z : exS K = true := c.more
  obtain ⟨znb, z⟩ := ba z
  have znb0 := znb
  obtain ⟨zsm, zn⟩ := ba znb
  obtain ⟨_, zn⟩ := ba zn
  obtain ⟨_, zn⟩ := ba zn
  obtain ⟨_, zn⟩ := ba zn
  obtain ⟨_, zn⟩ := ba zn
  obtain ⟨_, zn⟩ := ba zn
  obtain ⟨_, zl⟩ := ba zn
  obtain ⟨zl1, zl⟩ := ba zl
  obtain ⟨zl2, zl⟩ := ba zl
  obtain ⟨zl3, zl⟩ := ba zl
  obtain ⟨zl4, zl5⟩ := ba zl
  obtain ⟨zea, z⟩ := ba z
  obtain ⟨zda, z⟩ := ba z
  obtain ⟨zdd, z⟩ := ba z
  obtain ⟨zkn, z⟩ := ba z
  obtain ⟨zcut, z⟩ := ba z
  obtain ⟨zbm, z⟩ := ba z
  obtain ⟨zob, z⟩ := ba z
  obtain ⟨zer, z⟩ := ba z
  obtain ⟨zin, zx⟩ := ba z
  obtain ⟨zbm, zbt⟩ := ba zbm
  obtain ⟨bm1, bm⟩ := ba zbm
  obtain ⟨bt1, bt⟩ := ba zbt
  obtain ⟨bt2, bt3⟩ := ba bt
  obtain ⟨bm2, bm3⟩ := ba bm
  have dA : ∀ {d : He5.DefA}, d ∈ dAs → ∃ fd, FunD K d.name d.qual d.params d.body d.scope (d.dvs K) (d.kws K) (d.at_ K) fd := fun {d} hd => by
    refine d.funD ?_ (List.all_eq_true.mp zda d hd)
    have e := cy.y
    exact List.map_inj_left.mp e d hd
  have S : SaysD fas fns K := c.t.d
  have fact : ∀ {f : Fa}, f ∈ fas → f.ok K = true := fun h => S.facts h
  have m1 : ∀ {f : Fa}, f ∈ (freesN.map Fa.free) → f ∈ fas := fun h => by unfold fas; simp only [List.mem_append]; simp only [h, true_or]
  have m2 : ∀ {f : Fa}, f ∈ (topsN.map fun q => Fa.glo q.1) → f ∈ fas := fun h => by unfold fas; simp only [List.mem_append]; simp only [h, true_or, or_true]
  have m2d : ∀ {f : Fa}, f ∈ (topsD.map fun q => Fa.glo q.1) → f ∈ fas := fun h => by unfold fas; simp only [List.mem_append]; simp only [h, true_or, or_true]
  have m3 : ∀ {f : Fa}, f ∈ (methN.map fun q => Fa.meth "Words" q.1) → f ∈ fas := fun h => by unfold fas; simp only [List.mem_append]; simp only [h, true_or, or_true]
  have m3n : ∀ {f : Fa}, f ∈ (mtsN.flatMap fun p => p.2.map fun q => Fa.meth q.1 p.1) → f ∈ fas := fun h => by unfold fas; simp only [List.mem_append]; simp only [h, true_or, or_true]
  have m3m : ∀ {f : Fa}, f ∈ (midL.map Fa.glo) → f ∈ fas := fun h => by unfold fas; simp only [List.mem_append]; simp only [h, true_or, or_true]
  have m3l : ∀ {f : Fa}, f ∈ (lotN.map fun q => Fa.meth "Lot" q.1) → f ∈ fas := fun h => by unfold fas; simp only [List.mem_append]; simp only [h, true_or, or_true]
  have m7 : ∀ {f : Fa}, f ∈ (kindN.map fun q => Fa.glo q.1) → f ∈ fas := fun h => by unfold fas; simp only [List.mem_append]; simp only [h, true_or, or_true]
  have m8 : ∀ {f : Fa}, f ∈ (kindN.map fun q => Fa.cls q.1) → f ∈ fas := fun h => by unfold fas; simp only [List.mem_append]; simp only [h, true_or, or_true]
  have m9 : ∀ {f : Fa}, f ∈ (mkN.map fun q => Fa.mkr q.1) → f ∈ fas := fun h => by unfold fas; simp only [List.mem_append]; simp only [h, true_or, or_true]
  have m10 : ∀ {f : Fa}, f ∈ (noN.map fun q => Fa.noat q.1 q.2) → f ∈ fas := fun h => by unfold fas; simp only [List.mem_append]; simp only [h, true_or, or_true]
  have m4 : ∀ {f : Fa}, f ∈ ([.glo "Words", .cls "Words", .mkr "Words", .noat "Words" "parts", .noat "Words" "line", .noat "Words" "taken", .keep "Cut", .glo "Lot", .cls "Lot", .mkr "Lot", .noat "Lot" "fixes", .int "LINES" 6, .int "DAYS" 200] : List Fa) → f ∈ fas := fun h => List.mem_append_right _ h
  have hek : ∀ q ∈ errsN, ErrK K q.1 q.2 := fun q hq => errB_ok (List.all_eq_true.mp zer q hq) zob
  have hgl : ∀ q ∈ errsN, mg q.1 = some (.ref (ga K q.1)) := fun q hq => PySem.W.mg_of X G (hek q hq).nm
  have d1 : ∀ {d : DefD}, d ∈ (topsN.map dTop) → d ∈ fns := fun h => by unfold fns; simp only [List.mem_append]; simp only [h, true_or, or_true]
  have d1d : ∀ {d : DefD}, d ∈ (topsD.map dTopD) → d ∈ fns := fun h => by unfold fns; simp only [List.mem_append]; simp only [h, true_or, or_true]
  have d3 : ∀ {d : DefD}, d ∈ (methN.map dMeth) → d ∈ fns := fun h => by unfold fns; simp only [List.mem_append]; simp only [h, true_or, or_true]
  have d3n : ∀ {d : DefD}, d ∈ (dUN.map dU) → d ∈ fns := fun h => by unfold fns; simp only [List.mem_append]; simp only [h, true_or, or_true]
  have d3l : ∀ {d : DefD}, d ∈ (lotN.map dLot) → d ∈ fns := fun h => by unfold fns; simp only [List.mem_append]; simp only [h, true_or, or_true]
  have mt : ∀ p ∈ mtsN, ∀ q ∈ p.2, Meth K (ga K q.1) p.1 (ma K (ga K q.1) p.1) ∧ ∃ fd, FunD K p.1 (q.2.1 ++ "." ++ p.1) (defArgs (cSt q)) (defBody (cSt q)) (defScope (cSt q)) [] [] (ma K (ga K q.1) p.1) fd := fun p hp q hq => by
    refine ⟨meth_ok (fact (m3n (List.mem_flatMap.mpr ⟨p, hp, List.mem_map_of_mem (f := fun q : Str × Str × Nat × Nat => Fa.meth q.1 p.1) hq⟩))), ?_⟩
    have e : ma K (ga K q.1) p.1 = ma K (ga K q.2.1) p.1 := of_decide_eq_true (List.all_eq_true.mp (List.all_eq_true.mp zsm p hp) q hq)
    rw [e]
    exact S.defs (d := dU (p.1, q.2)) (d3n (List.mem_map_of_mem (f := dU) (sub_dU p hp q hq)))
  have d4 : ∀ {d : DefD}, d ∈ [dInitW] → d ∈ fns := fun h => List.mem_append_left _ (List.mem_append_right _ h)
  have inK : ∀ {x : Str}, x ∈ kindN.map Prod.fst → ∃ z, (x, z) ∈ kindN := fun h => by
    obtain ⟨⟨a, b⟩, h2, rfl⟩ := List.mem_map.mp h
    exact ⟨b, h2⟩
  have km : ∀ q ∈ mkN, ∃ z, (q.1, z) ∈ kindN := fun q hq => inK ((by decide : ∀ q ∈ mkN, q.1 ∈ kindN.map Prod.fst) q hq)
  have d7 : ∀ {d : DefD}, d ∈ (mkN.map dMk) → d ∈ fns := fun h => by unfold fns; simp only [List.mem_append]; simp only [h, true_or, or_true]
  have d5 : ∀ {d : DefD}, d ∈ (iniN.map fun q => dInitE q.1 q.2.1) → d ∈ fns := fun h => List.mem_append_right _ h
  have one : ∀ q ∈ iniN, PySem.W.findIn K (.ref (ga K q.1)) "__init__" = some (some (.ref (ma K (ga K q.1) "__init__"))) ∧ PySem.W.typeIn K (.ref (ma K (ga K q.1) "__init__")) = some (.type "function") ∧ (∀ f ∈ q.2.2, PySem.W.findIn K (.ref (ga K q.1)) f = some none) ∧
      ∃ fd, FunD K "__init__" (q.1 ++ ".__init__") (defArgs (inClass (top q.2.1) 0)) (defBody (inClass (top q.2.1) 0)) (defScope (inClass (top q.2.1) 0)) [] [] (ma K (ga K q.1) "__init__") fd := fun q hq => by
    obtain ⟨i1, i⟩ := ba (List.all_eq_true.mp zin q hq)
    obtain ⟨i2, i3⟩ := ba i
    exact ⟨eqO_ok i1, of_decide_eq_true i2, fun f hf => eqO_ok (List.all_eq_true.mp i3 f hf), S.defs (d5 (List.mem_map_of_mem (f := fun q : Str × Nat × List Str => dInitE q.1 q.2.1) hq))⟩
  have hc : ∀ {x : Str}, (∃ z, (x, z) ∈ kindN) → mg x = some (.ref (ga K x)) ∧ Cls K (ga K x) := fun {x} ⟨z, hz⟩ =>
    ⟨glo_ok X G (fact (m7 (List.mem_map_of_mem (f := fun q : Str × Str => Fa.glo q.1) hz))), cls_ok (fact (m8 (List.mem_map_of_mem (f := fun q : Str × Str => Fa.cls q.1) hz)))⟩
  refine {
    fr := fun x hx => free_ok X G (fact (m1 (List.mem_map_of_mem hx))), ek := hek, gl := hgl, bd := ?_, bf := ?_, nd := ?_, nl := ?_, tops := fun q hq => ?_, topd := fun q hq => ?_,
    gk := fun q hq => ⟨(hc (km q hq)).1, (hc (km q hq)).2, mkr_ok (fact (m9 (List.mem_map_of_mem (f := fun q : Str × Nat => Fa.mkr q.1) hq)))⟩,
    ik := fun q hq => S.defs (d7 (List.mem_map_of_mem (f := dMk) hq)), no := fun q hq => noat_ok (fact (m10 (List.mem_map_of_mem (f := fun q : Str × Str => Fa.noat q.1 q.2) hq))),
    iL := int_ok X G (fact (m4 (by simp))), iD := int_ok X G (fact (m4 (by simp))), gc := (hc ⟨"cut", by decide⟩).1, cc := (hc ⟨"cut", by decide⟩).2, kc := fact (f := .keep "Cut") (m4 (by simp)),
    nmd := mt ("named", namedN) (by decide +kernel), stp := mt ("stop", stopN) (by decide +kernel), strm := mt ("__str__", strN) (by decide +kernel), eqm := mt ("__eq__", eqN) (by decide +kernel), olm := mt ("own_lines", olN) (by decide +kernel), odm := mt ("own_days", odN) (by decide +kernel), ofm := mt ("own_fixes", ofN) (by decide +kernel), nlm := mt ("named_lines", nlN) (by decide +kernel), str := ?_, knd := fun q hq => List.all_eq_true.mp zkn q hq, gdd := glo_ok X G (fact (m3m (List.mem_map_of_mem (f := Fa.glo) (a := ("Deed" : Str)) (l := midL) (by decide)))), ddb := zdd, frd := dA (d := dAs[0]) (by simp [dAs]), tx := ?_,
    gw := glo_ok X G (fact (m4 (by simp))), cl := cls_ok (fact (m4 (by simp))), mkr := mkr_ok (fact (m4 (by simp))), noP := noat_ok (fact (m4 (by simp))), noL := noat_ok (fact (m4 (by simp))), noT := noat_ok (fact (m4 (by simp))),
    meth := fun q hq => ⟨?_, ?_⟩, ini := ?_, nb := ⟨?_, eqO_ok bm1, of_decide_eq_true bm2, by decide +kernel, bm3⟩, nbt := ⟨?_, eqO_ok bt1, of_decide_eq_true bt2, by decide +kernel, bt3⟩, cut := zcut,
    xT := fun q hq => of_decide_eq_true (List.all_eq_true.mp zx q hq), ob := zob, mid := fun x hx => glo_ok X G (fact (m3m (List.mem_map_of_mem (f := Fa.glo) hx))), nb8 := znb0, bl := ?_, tm := ?_, go := glo_ok X G (fact (m4 (by simp))), clo := cls_ok (fact (m4 (by simp))), mko := mkr_ok (fact (m4 (by simp))), noF := noat_ok (fact (m4 (by simp))),
    lot := fun q hq => ⟨meth_ok (fact (m3l (List.mem_map_of_mem (f := fun q : Str × Nat => Fa.meth "Lot" q.1) hq))), S.defs (d3l (List.mem_map_of_mem (f := dLot) hq))⟩, fo := dA (d := dAs[1]) (by simp [dAs]), l1 := zl1, l2 := zl2, l3 := zl3, l4 := zl4, l5 := zl5, ea := of_decide_eq_true zea }
  · obtain ⟨i1, i2, i3, fd, F⟩ := one ("BadDeed", 11, ["at"]) (by decide)
    have E := hek ("BadDeed", bT) (by decide)
    exact ⟨E, ⟨_, fd, i1, i2, ok_init1 F b_deed E.ox (i3 "at" (by decide)), pos1 F b_deed, kw1 F b_deed⟩, i3 "at" (by decide), hgl ("BadDeed", bT) (by decide)⟩
  · obtain ⟨i1, i2, i3, fd, F⟩ := one ("BadFix", 12, ["value"]) (by decide)
    have E := hek ("BadFix", bT) (by decide)
    exact ⟨E, ⟨_, fd, i1, i2, ok_init1 F b_fix E.ox (i3 "value" (by decide)), pos1 F b_fix, kw1 F b_fix⟩, i3 "value" (by decide), hgl ("BadFix", bT) (by decide)⟩
  · obtain ⟨i1, i2, i3, fd, F⟩ := one ("NoDay", 15, ["day"]) (by decide)
    have E := hek ("NoDay", bT) (by decide)
    exact ⟨E, ⟨_, fd, i1, i2, ok_init1 F b_day E.ox (i3 "day" (by decide)), pos1 F b_day, kw1 F b_day⟩, i3 "day" (by decide), hgl ("NoDay", bT) (by decide)⟩
  · obtain ⟨i1, i2, i3, fd, F⟩ := one ("NoLine", 16, ["line"]) (by decide)
    have E := hek ("NoLine", bT) (by decide)
    exact ⟨E, ⟨_, fd, i1, i2, ok_init1 F b_line E.ox (i3 "line" (by decide)), pos1 F b_line, kw1 F b_line⟩, i3 "line" (by decide), hgl ("NoLine", bT) (by decide)⟩
  · obtain ⟨fd, F⟩ := S.defs (d1 (List.mem_map_of_mem (f := dTop) hq))
    exact ⟨fd, F, glo_ok X G (fact (m2 (List.mem_map_of_mem (f := fun q : Str × Nat => Fa.glo q.1) hq)))⟩
  · obtain ⟨fd, F⟩ := S.defs (d1d (List.mem_map_of_mem (f := dTopD) hq))
    exact ⟨fd, F, glo_ok X G (fact (m2d (List.mem_map_of_mem (f := fun q : Str × Nat => Fa.glo q.1) hq)))⟩
  · intro q hq
    exact mt ("__str__", strN) (by decide +kernel) (q.1, "Deed", 37, 3) ((by decide +kernel : ∀ q ∈ kindN, ((q.1, "Deed", 37, 3) : Str × Str × Nat × Nat) ∈ strN) q hq)
  · obtain ⟨i1, i2, i3, fd, F⟩ := one ("BadLot", 13, ["part"]) (by decide)
    have E := hek ("BadLot", bT) (by decide)
    exact ⟨E, ⟨_, fd, i1, i2, ok_init1 F b_lot E.ox (i3 "part" (by decide)), pos1 F b_lot, kw1 F b_lot⟩, i3 "part" (by decide), hgl ("BadLot", bT) (by decide)⟩
  · obtain ⟨i1, i2, i3, fd, F⟩ := one ("TooMany", 17, ["what", "most"]) (by decide)
    have E := hek ("TooMany", bM) (by decide)
    exact ⟨E, ⟨_, fd, i1, i2, ok_init2 F b_many E.ox (i3 "what" (by decide)) (i3 "most" (by decide)), pos2 F b_many, kw2 F b_many⟩, i3 "what" (by decide), i3 "most" (by decide), hgl ("TooMany", bM) (by decide)⟩
  · obtain ⟨i1, i2, i3, fd, F⟩ := one ("BadText", 14, ["line", "word"]) (by decide)
    have E := hek ("BadText", bT) (by decide)
    exact ⟨E, ⟨_, fd, i1, i2, ok_init2 F b_text E.ox (i3 "line" (by decide)) (i3 "word" (by decide)), pos2 F b_text, kw2 F b_text⟩, i3 "line" (by decide), i3 "word" (by decide), hgl ("BadText", bT) (by decide)⟩
  · exact meth_ok (fact (m3 (List.mem_map_of_mem (f := fun q : Str × Nat => Fa.meth "Words" q.1) hq)))
  · exact S.defs (d3 (List.mem_map_of_mem (f := dMeth) hq))
  · exact S.defs (d4 (d := dInitW) (by simp))
  · exact meth_ok (fact (m3 (List.mem_map_of_mem (f := fun q : Str × Nat => Fa.meth "Words" q.1) (a := (("is_next", 5) : Str × Nat)) (by decide))))
  · exact meth_ok (fact (m3 (List.mem_map_of_mem (f := fun q : Str × Nat => Fa.meth "Words" q.1) (a := (("take", 6) : Str × Nat)) (by decide))))
theorem mk3_eq {H : Hp} {a d C : Addr} {fs : List (Str × V)} (na : H a = none) (h : d ≠ a) : upd (L2.del (mkE H a d C fs) a) d (.xd fs) = upd H d (.xd fs) := by
  funext b
  by_cases e : b = d
  · rw [e, upd_same, upd_same]
  · rw [upd_ne e, upd_ne e]
    by_cases e2 : b = a
    · rw [e2, del_same, na]
    · rw [del_ne e2]
      unfold mkE
      rw [upd_ne e2, upd_ne e]
theorem mkb {H : Hp} {C : Addr} {f g : Str} {v u : V} {Q : XK} (q : ∀ d, H d = none → Q (.ref C) (some d) (upd H d (.xd [(g, u), (f, v)]))) :
    [v, u].length ≤ 1000 ∧ ∀ a, H a = none → spE2 C f g (.ref a :: ([v, u] ++ [])) (upd H a (exo a C none))
      (fun v H2 => v = .non ∧ ∃ (d : Addr) (fs : List (Str × V)), H2 a = some (exo a C (some d)) ∧ H2 d = some (exd d fs) ∧ H d = none ∧ Q (.ref C) (some d) (upd (L2.del H2 a) d (.xd fs))) (fun _ _ _ => False) := by
  refine ⟨by show 2 ≤ 1000; decide, fun a na => ⟨a, v, u, rfl, upd_same, fun d hd ne => ⟨rfl, d, [(g, u), (f, v)], ?_⟩⟩⟩
  rw [upd_ne ne] at hd
  rw [mk2_eq ne, mk3_eq na ne]
  exact ⟨(mkE_at ne).ob, (mkE_at ne).dc, hd, q d hd⟩
def tBad (K : PySem.W.Frag) (te te2 : TE) (W : WX) : TS := fun _ σ H => tMkO (gT K) (spE2 (gT K) "line" "word") [] (tCons te (tCons te2 tNil)) σ H fun cls d H' => W cls d σ H'
theorem ps_bad {X : Cx} {W : WX} {e e2 : Expr} {te te2 : TE} {p pos pos2 : Pos} (T : KF X.prog X.w X.K X.mg X.base) (hr : Room 2 X.A) (hc : X.calm = true) (tk : Takes X W) (hg : Gl X "BadText") (he : PE X e te) (he2 : PE X e2 te2)
    (hs : starEach [e, e2] X.env = (false, eval e X.env) :: starEach [e2] X.env := by rfl) (hs2 : starEach [e2] X.env = (false, eval e2 X.env) :: starEach [] X.env := by rfl)
    (hpl : (backTo pos (starEach [e2] X.env)).any (·.1) = false := by rfl) : PS X (.Raise (some (.Call (.Name "BadText" p) [e, e2] [] pos)) none pos2) (tBad X.K te te2 W) := by
  obtain ⟨fI, fd, iC, tI, F1, b1, _⟩ := T.tx.mkr
  exact ps_raise hc tk (pmk_oex (dvs := []) T.tx.e.ox iC tI F1 hr b1 .nil (fun _ _ _ _ _ _ _ z => z.elim) hg T.tx.gl (pa_cons he (pa_cons he2 pa_nil (hs := hs2)) (hs := hs)) (by decide) hs hpl)
end K8
set_option Elab.async false
set_option linter.all false
set_option maxRecDepth 100000
set_option maxHeartbeats 1000000
namespace K8
open PySem PySem.Spec PyProof.Rows L2 RV EV He EF EI
/-! The class Words: is_next, step, refuse, end. -/
/-- a Words at p: its parts at tp, its line, how many were taken -/
structure WO (K : PySem.W.Frag) (H : Hp) (p dx tp : Addr) (ws : List Str) (ln : Int) (t : Nat) : Prop where
  ob : H p = some (.ins (gW K) dx [("parts", .ref tp), ("line", .int ln), ("taken", .int t)])
  ps : H tp = some (.tup (ws.map V.str))
  le : t ≤ ws.length
  lz : ws.length ≤ 1000
def SameW (H H' : Hp) (p : Addr) : Prop := ∀ c o, c ≠ p → H c = some o → H' c = some o
theorem WO.same {K : PySem.W.Frag} {H H' : Hp} {p dx tp : Addr} {ws : List Str} {ln : Int} {t : Nat} (O : WO K H p dx tp ws ln t) (s : Same H H') : WO K H' p dx tp ws ln t := ⟨s _ _ O.ob, s _ _ O.ps, O.le, O.lz⟩
theorem WO.ne {K : PySem.W.Frag} {H : Hp} {p dx tp : Addr} {ws : List Str} {ln : Int} {t : Nat} (O : WO K H p dx tp ws ln t) : tp ≠ p := ne_of O.ps O.ob (fun z => nomatch z)
def nextB (ws : List Str) (t : Nat) (ss : List Str) : Bool := decide (t < ws.length) && (ss.isEmpty || decide (ws.getD t "" ∈ ss))
theorem getD_at {ws : List Str} {t : Nat} (h : t < ws.length) : ws[t]? = some (ws.getD t "") := by
  rw [List.getD_eq_getElem?_getD, List.getElem?_eq_getElem h]
  rfl
theorem inV_str (x : Str) (ss : List Str) : inV (.str x) (ss.map V.str) = decide (x ∈ ss) := by
  unfold inV
  induction ss with
  | nil => rfl
  | cons s ss ih =>
    rw [List.map_cons, List.any_cons, ih]
    have e : eqV (.str s) (.str x) = decide (s = x) := by
      unfold eqV
      rfl
    rw [e]
    by_cases h : s = x
    · simp [h]
    · have h2 : x ≠ s := fun z => h z.symm
      simp [h, h2]
theorem flat_strs (ss : List Str) : (ss.map V.str).all flatV = true := by
  rw [List.all_eq_true]
  intro v hv
  obtain ⟨s, _, rfl⟩ := List.mem_map.mp hv
  rfl
/-- o.m(), by a positional promise -/
theorem pe_meth0R {X : Cx} {CX : CXT} {k : Nat} {C f : Addr} {m : Str} {sp : Sp} {E : XK} {o : Expr} {ta : TE} {apos pos : Pos} {pl : Sem Bool} (he : PE X o ta) (c : Cls X.K C) (hm : Meth X.K C m f)
    (F : FnR X.prog X.w X.K X.mg X.base CX k f sp) (hr : Room k X.A) (hx : Passes CX X E)
    (ht : eval (.Call (.Attribute o m apos) [] [] pos) X.env = (do
      let u ← eval o X.env
      standAt apos.atName
      let (g, one) ← holding [u] (getMethod u m pl)
      callWith pos g one (backTo pos (starEach [] X.env)) (backToKw pos (keywordEach [] X.env))) := by rfl) :
    PE X (.Call (.Attribute o m apos) [] [] pos) (tMethR C m sp E ta tNil) := by
  refine ⟨fun pins s σ H Q I h => PySem.W.methodCall_KW (pl := pl) (thn (he.run pins s σ H _ I h) fun v s1 hv => ?_) ht⟩
  obtain ⟨x, H1, I1, rx, a, dx, fs, rfl, ea, l, q⟩ := hv
  obtain rfl : v = Value.ref a := rx
  exact getmeth_ok I1 ea c hm l (PySem.W.callWith_K0 (first := [.ref a]) I1.kIn hm.kp (wpAny_call (run_fnR (us := [.ref a]) (vs := [.ref a]) F hr hx I1 (.cons rfl .nil) q)))
def spNext0 (K : PySem.W.Frag) : Sp := fun vs H Q _ => ∃ p dx tp ws ln t T ss, vs = [.ref p, .ref T] ∧ WO K H p dx tp ws ln t ∧ H T = some (.tup (ss.map V.str)) ∧ ss.length ≤ 300 ∧ Q (.bl (nextB ws t ss)) H
def spStar (sp : Sp) : Sp := fun vs H Q E => ∃ ws rest, vs = ws ++ rest ∧ ws.length = (["self"] : List Str).length ∧ rest.length ≤ sizeLine ∧ ∀ p, H p = none → sp (ws ++ [V.ref p]) (upd H p (.tup rest)) Q E
section
variable {P : Program} {w : World} {K : PySem.W.Frag} {mg : Str → Option Value} {base : Heap}
abbrev mAd (K : PySem.W.Frag) (m : Str) : Addr := ma K (gW K) m
abbrev scNx_N : List Str := ["self", "some"]
theorem scNx : FnScope scNx_N ["self", "some"] (defScope (wSt 5)) := ⟨rfl, rfl, rfl, by decide +kernel, rfl, by decide +kernel, by decide +kernel⟩
theorem ok_next (T : KF P w K mg base) : FnR P w K mg base CX0 1 (mAd K "is_next") (spStar (spNext0 K)) := by
  obtain ⟨_, fd, F⟩ := T.meth ("is_next", 5) (by decide)
  obtain ⟨oc, od, dV, kV, doc, pm, an, cdv, ct, osl, rfl, lk, hcd, hD, hK⟩ := F.ex
  rcases hD with ⟨_, rfl⟩ | ⟨e, _⟩
  case inr => exact absurd rfl e
  refine StX.fn_star (ps := ["self"]) (pv := "some") lk hcd scNx StX.cxUp_none (StX.bind_star1 (B := fun us => bindArgs _ ⟨us, []⟩) (fun a => rfl) fun a r rs => rfl) fun A outer s H vs Q E hr h => ?_
  obtain ⟨p, dx, tp, ws, ln, t, T', ss, rfl, O, hT, hz, k⟩ := h
  refine ⟨_, PSs.nox (pss_cons (ps_if (pt_cmpR op_eq (pe_fld (pv 0) rfl) (pe_callB call_len_seq (by rfl) (T.fr "len" (by decide)) PySem.boot_len (pa_cons (pe_fld (pv 0) rfl) pa_nil)) (nomark _)) (pss_one (ps_ret pe_bl)) pss_nil)
    (pss_one (ps_ret (pe_or (pe_notT (pv 1)) (pe_one (pe_cmpR op_in_seq (pe_ix ix_tup (pe_fld (pv 0) rfl) (pe_fld (pv 0) rfl) (fun _ _ => rfl)) (pv 1) rfl)))))), ?_⟩
  refine ⟨_, rfl, p, _, dx, _, _, rfl, O.ob, T.cl, T.noT, rfl, _, rfl, p, _, dx, _, _, rfl, O.ob, T.cl, T.noP, rfl, tp, _, rfl, .inr (SqT.of O.ps), rfl, _, rfl, ?_⟩
  have e0 : (V.int (t : Int) = V.int ((ws.map V.str).length : Nat)) ↔ t = ws.length := by
    rw [List.length_map]
    constructor
    · intro z
      have := V.int.inj z
      omega
    · rintro rfl; rfl
  unfold nextB at k
  by_cases h0 : t = ws.length
  · refine if_posB (decide_eq_true (e0.mpr h0)) ?_
    rw [decide_eq_false (by omega), Bool.false_and] at k
    exact k
  · have ht : t < ws.length := by have := O.le; omega
    refine if_negB (decide_eq_false fun z => h0 (e0.mp z)) ⟨_, rfl, !(ss.map V.str).isEmpty, ?_, ?_⟩
    · exact .inr (.inl ⟨_, SqT.of hT, rfl⟩)
    · rw [decide_eq_true ht, Bool.true_and] at k
      cases e : ss.isEmpty with
      | true =>
        rw [e, Bool.true_or] at k
        have e2 : (ss.map V.str).isEmpty = true := by simpa using e
        rw [e2]
        exact ⟨_, rfl, if_posB rfl k⟩
      | false =>
        rw [e, Bool.false_or] at k
        have e2 : (ss.map V.str).isEmpty = false := by simpa using e
        rw [e2]
        refine ⟨_, rfl, if_negB rfl ⟨_, rfl, p, _, dx, _, _, rfl, O.ob, T.cl, T.noP, rfl, _, rfl, p, _, dx, _, _, rfl, O.ob, T.cl, T.noT, rfl, tp, _, _, .str (ws.getD t ""), rfl, rfl, SqT.of O.ps, atI_nat ?_, _, rfl, T', _, rfl, .inr (SqT.of hT), rfl, flat_strs ss, ?_⟩⟩
        · rw [List.getElem?_map, getD_at ht]
          rfl
        · show Q (.bl (inV (.str (ws.getD t "")) (ss.map V.str))) H
          rw [inV_str]
          exact k
/-- is_next called with the words ss -/
theorem nxt_of {H : Hp} {Q : VK} {E : XK} {p dx tp : Addr} {ws : List Str} {ln : Int} {t : Nat} (ss : List Str) (O : WO K H p dx tp ws ln t) (hz : ss.length ≤ 300) (k : ∀ H', Same H H' → Q (.bl (nextB ws t ss)) H') :
    spStar (spNext0 K) (.ref p :: ss.map V.str) H Q E := by
  refine ⟨[.ref p], ss.map V.str, rfl, rfl, by rw [List.length_map, sizeLine_eq]; omega, fun T nT => ?_⟩
  have s := same_new (o := .tup (ss.map V.str)) nT
  exact ⟨p, dx, tp, ws, ln, t, T, ss, rfl, O.same s, upd_same, hz, k _ s⟩
/-! step -/
def spStep (K : PySem.W.Frag) : Sp := fun vs H Q _ => ∃ p dx tp ws ln t, vs = [.ref p] ∧ WO K H p dx tp ws ln t ∧ t < ws.length ∧ ∀ H', SameW H H' p → WO K H' p dx tp ws ln (t + 1) → Q (.str (ws.getD t "")) H'
abbrev scSt_N : List Str := ["self", "word"]
theorem scSt : FnScope scSt_N ["self"] (defScope (wSt 10)) := ⟨rfl, rfl, rfl, by decide +kernel, rfl, by decide +kernel, by decide +kernel⟩
theorem methF (T : KF P w K mg base) {q : Str × Nat} (h : q ∈ methN) : ∃ fd, FunD K q.1 ("Words." ++ q.1) (defArgs (wSt q.2)) (defBody (wSt q.2)) (defScope (wSt q.2)) [] [] (mAd K q.1) fd := (T.meth q h).2
theorem ok_step (T : KF P w K mg base) {fd : FuncData} (F : FunD K "step" "Words.step" (defArgs (wSt 10)) (defBody (wSt 10)) (defScope (wSt 10)) [] [] (mAd K "step") fd) : FnOk P w K mg base CX0 1 (mAd K "step") fd ["self"] (spStep K) := by
  refine F.ok scSt (fun vs H Q E h => ?_) (fun cdv A outer s H vs Q E hr h => ?_)
  · obtain ⟨p, dx, tp, ws, ln, t, rfl, _⟩ := h
    rfl
  · obtain ⟨p, dx, tp, ws, ln, t, rfl, O, ht, k⟩ := h
    refine ⟨_, PSs.nox (pss_cons (ps_set (i := 1) scSt.nd rfl (.inl rfl) (pe_ix ix_tup (pe_fld (pv 0) rfl) (pe_fld (pv 0) rfl) (fun _ _ => rfl))) (pss_cons (ps_fldaug (pv 0) pe_int in_add) (pss_one (ps_ret (pv 1))))), ?_⟩
    refine ⟨_, rfl, p, _, dx, _, _, rfl, O.ob, T.cl, T.noP, rfl, _, rfl, p, _, dx, _, _, rfl, O.ob, T.cl, T.noT, rfl, tp, _, _, .str (ws.getD t ""), rfl, rfl, SqT.of O.ps, atI_nat ?_, ?_⟩
    · rw [List.getElem?_map, getD_at ht]
      rfl
    · have O2 : WO K (upd H p (.ins (gW K) dx [("parts", .ref tp), ("line", .int ln), ("taken", .int ((t : Int) + 1))])) p dx tp ws ln (t + 1) := ⟨by rw [upd_same]; rfl, by rw [upd_ne O.ne]; exact O.ps, ht, O.lz⟩
      refine ⟨_, rfl, p, gW K, dx, _, _, rfl, O.ob, T.cl, T.noT, rfl, _, _, rfl, rfl, _, _, O.ob, by show 3 < 1000; decide, ?_⟩
      exact ⟨_, rfl, k _ (fun c o hc e => by rw [upd_ne hc]; exact e) O2⟩
/-! refuse -/
/-- what BadText(ln, wd) tells, to those that catch it -/
def BadE (K : PySem.W.Frag) (H : Hp) (E : XK) (ln wd : V) : Prop := ∀ d, H d = none → E (.ref (gT K)) (some d) (upd H d (.xd [("word", wd), ("line", ln)]))
def spRefuse (K : PySem.W.Frag) : Sp := fun vs H _ E => ∃ p dx tp ws ln t, vs = [.ref p] ∧ WO K H p dx tp ws ln t ∧ BadE K H E (.int ln) (.int t)
theorem scRf : FnScope ["self"] ["self"] (defScope (wSt 11)) := ⟨rfl, rfl, rfl, by decide +kernel, rfl, by decide +kernel, by decide +kernel⟩
theorem ok_refuse (T : KF P w K mg base) {fd : FuncData} (F : FunD K "refuse" "Words.refuse" (defArgs (wSt 11)) (defBody (wSt 11)) (defScope (wSt 11)) [] [] (mAd K "refuse") fd) : FnOk P w K mg base (L2.CX P w) 3 (mAd K "refuse") fd ["self"] (spRefuse K) := by
  refine F.ok scRf (fun vs H Q E h => ?_) (fun cdv A outer s H vs Q E hr h => ?_)
  · obtain ⟨p, dx, tp, ws, ln, t, rfl, _⟩ := h
    rfl
  · obtain ⟨p, dx, tp, ws, ln, t, rfl, O, k⟩ := h
    refine ⟨_, pss_one (ps_bad T hr rfl (takes_of rfl rfl rfl rfl) (by rfl) (pe_fld (pv 0) rfl) (pe_fld (pv 0) rfl)), ?_⟩
    refine ⟨_, rfl, p, _, dx, _, _, rfl, O.ob, T.cl, T.noL, rfl, _, rfl, p, _, dx, _, _, rfl, O.ob, T.cl, T.noT, rfl, ?_⟩
    exact mkb k
end
end K8
set_option Elab.async false
set_option linter.all false
set_option maxRecDepth 100000
set_option maxHeartbeats 1000000
namespace K8
open PySem PySem.Spec PyProof.Rows L2 RV
/-! is_plain_number (10 of the row's top). -/
abbrev sPlain : Stmt := top 34
def digs (x : Str) : Str := Txt.removeprefix x "-"
def plainB (x : Str) : Bool := Txt.isascii (digs x) && (Txt.isdigit (digs x) && (!decide ((digs x).cps.toList.head? = some 48) || decide (x = "0")))
def spPlain : Sp := fun vs H Q _ => ∃ x, vs = [.str x] ∧ x.length ≤ 1000000 ∧ (digs x).length ≤ 1000000 ∧ Q (.bl (plainB x)) H
section
variable {P : Program} {w : World} {K : PySem.W.Frag} {mg : Str → Option Value} {base : Heap} {f : Addr} {fd : FuncData}
abbrev scPlain_N : List Str := ["word", "digits"]
theorem scPlain : FnScope scPlain_N ["word"] (defScope sPlain) := ⟨rfl, rfl, rfl, by decide +kernel, rfl, by decide +kernel, by decide +kernel⟩
theorem ok_plain (F : FnP K "is_plain_number" sPlain f fd) : FnOk P w K mg base CX0 1 f fd ["word"] spPlain := by
  refine F.ok scPlain (fun vs H Q E h => ?_) (fun cdv A outer s H vs Q E hr h => ?_)
  · obtain ⟨v, rfl, _⟩ := h
    rfl
  · obtain ⟨x, rfl, hz, hd, k⟩ := h
    refine ⟨_, PSs.nox (pss_cons (ps_set (i := 1) scPlain.nd rfl (.inl rfl) (pe_bm PySem.F.plainAttrs_str PySem.F.slot_str_removeprefix rfl mt_removeprefix (pv 0) (pa_cons pe_str pa_nil)))
      (pss_cons (ps_if (PW.pt (pw_or (pt_not (pt_val (pe_bm0 PySem.F.plainAttrs_str PySem.F.slot_str_isascii rfl mt_isascii (pv 1)))) (pw_or1 (pt_not (pt_val (pe_bm0 PySem.F.plainAttrs_str PySem.F.slot_str_isdigit rfl mt_isdigit (pv 1))))))) (pss_one (ps_ret pe_bl)) pss_nil)
      (pss_one (ps_ret (pe_or (pe_cmpR op_ne (pe_ix ix_str (pv 1) pe_int (fun _ _ => rfl)) pe_str (nomark _)) (pe_one (pe_cmpR op_eq (pv 0) pe_str (nomark _)))))))), ?_⟩
    refine ⟨.str x, rfl, rfl, x, "-", rfl, rfl, by rw [sizeLine_eq]; omega, ?_⟩
    refine ⟨.str (digs x), by simp [L2.start, digs], rfl, digs x, rfl, rfl, trivial, _, rfl, ?_⟩
    cases e1 : Txt.isascii (digs x) with
    | false =>
      refine if_posB rfl (if_posB rfl ?_)
      unfold plainB at k
      rw [e1, Bool.false_and] at k
      exact k
    | true =>
      refine if_negB rfl ⟨.str (digs x), by simp [L2.start, digs], rfl, digs x, rfl, rfl, trivial, _, rfl, ?_⟩
      cases e2 : Txt.isdigit (digs x) with
      | false =>
        refine if_posB rfl ?_
        unfold plainB at k
        rw [e2, Bool.false_and, Bool.and_false] at k
        exact k
      | true =>
        refine if_negB rfl ?_
        have hp : 0 < (digs x).cps.toList.length := by
          have h := e2
          unfold Txt.isdigit at h
          have h1 := of_decide_eq_true (Bool.and_eq_true_iff.mp h).1
          have e3 : (digs x).cps.toList.length = (digs x).length := by simp [Str.length]
          rw [e3]
          exact h1
        obtain ⟨c, cs, hc⟩ : ∃ c cs, (digs x).cps.toList = c :: cs := by
          cases h : (digs x).cps.toList with
          | nil => rw [h] at hp; exact absurd hp (by decide)
          | cons c cs => exact ⟨c, cs, rfl⟩
        have hv : plainB x = (!decide (c = 48) || decide (x = "0")) := by
          unfold plainB
          rw [e1, e2, hc, Bool.true_and, Bool.true_and]
          simp
        rw [hv] at k
        refine ⟨.str (digs x), by simp [L2.start, digs], digs x, 0, c, rfl, rfl, by rw [sizeLine_eq]; omega, atI_nat (j := 0) (by rw [hc]; rfl), rfl, _, rfl, ?_⟩
        have zero : V.str ⟨#[48]⟩ = V.str "0" := by rfl
        by_cases hc0 : c = 48
        · subst hc0
          refine if_negB (by rw [decide_eq_true zero]; rfl) ⟨.str x, by simp [L2.start], rfl, ?_⟩
          have e4 : decide (V.str x = V.str "0") = (!decide ((48 : Nat) = 48) || decide (x = "0")) := by
            rw [dec_str]
            simp [Bool.beq_eq_decide_eq]
          show Q (.bl (decide (V.str x = V.str "0"))) H
          rw [e4]
          exact k
        · refine if_posB ?_ ?_
          · have ne : V.str ⟨#[c]⟩ ≠ V.str "0" := fun h => hc0 (by
              have h2 : (⟨#[c]⟩ : Str) = ⟨#[48]⟩ := V.str.inj (h.trans zero.symm)
              have h3 := congrArg (fun s : Str => s.cps.toList) h2
              simpa using h3)
            rw [decide_eq_false ne]
            rfl
          · rw [decide_eq_false hc0] at k
            simpa using k
end
end K8
set_option Elab.async false
set_option linter.all false
set_option maxRecDepth 100000
set_option maxHeartbeats 1000000
namespace K8
open PySem PySem.Spec PyProof.Rows L2 RV
/-! a text so many times; _law_texts (16). -/
def repS (z : Str) (n : Nat) : Str := ⟨(List.replicate n z.cps).foldl (· ++ ·) #[]⟩
def rMulS : R2 := fun x y H Q => ∃ z k, x = V.str z ∧ y = V.int k ∧ 2 ≤ k ∧ k ≤ 100000 ∧ 0 < z.length ∧ z.length ≤ 100 ∧ Q (.str (repS z k.toNat)) H
theorem foldl_size (n : Nat) (z : Array Nat) : ∀ a : Array Nat, ((List.replicate n z).foldl (· ++ ·) a).size = a.size + n * z.size := by
  induction n with
  | zero => intro a; simp
  | succ n ih =>
    intro a
    rw [List.replicate_succ, List.foldl_cons, ih, Array.size_append, Nat.succ_mul]
    omega
theorem repS_len (z : Str) (n : Nat) : (repS z n).length = n * z.length := by
  show ((List.replicate n z.cps).foldl (· ++ ·) #[]).size = n * z.cps.size
  rw [foldl_size]
  simp
theorem op_mulS {X : Cx} : OpR X (binaryOp .Mult) rMulS := by
  intro pins s σ H x y v u Q I rx ry h
  obtain ⟨z, k, rfl, rfl, h1, h2, h3, h4, q⟩ := h
  obtain ⟨t, rfl⟩ := rx
  obtain ⟨t', rfl⟩ := ry
  have hm : z.length * k.toNat ≤ 100 * 100000 := Nat.mul_le_mul h4 (by omega)
  have e1 : ¬ k < 1 := by omega
  have e2 : (k == 1 || z.length == 0) = false := by
    rw [Bool.or_eq_false_iff]
    exact ⟨beq_false_of_ne (by omega), beq_false_of_ne (by omega)⟩
  refine PySem.P.mul_str ?_ (fun _ _ => ?_) (fun _ _ => ?_) ?_
  · rw [Bool.or_eq_false_iff]
    exact ⟨decide_eq_false (by omega), decide_eq_false (by omega)⟩
  · have : (z.length : Int) ≤ (2 ^ 63 - 1) / k := by
      rw [Int.le_ediv_iff_mul_le (by omega)]
      have h5 : (z.length : Int) * k ≤ 100 * k := Int.mul_le_mul_of_nonneg_right (by omega) (by omega)
      omega
    omega
  · show decide (z.length * k.toNat > sizeLine) = false
    exact decide_eq_false (by rw [sizeLine_eq]; omega)
  · rw [if_neg e1, if_neg (by rw [e2]; decide)]
    refine ⟨?_, .str (repS z k.toNat), H, I.tok _, ⟨_, rfl⟩, q⟩
    show (repS z k.toNat).length ≤ sizeLine
    rw [repS_len, Nat.mul_comm, sizeLine_eq]
    omega
end K8
set_option Elab.async false
set_option linter.all false
set_option maxRecDepth 100000
set_option maxHeartbeats 1000000
namespace K8
open PySem PySem.Spec PyProof.Rows L2 RV
/-! number_of (9 of the row's top), by the code's own steps. -/
abbrev sNum : Stmt := top 33
def lenS (i : Int) : Nat := (toString i : Str).length
def mxL (lo hi : Int) : Int := if (lenS hi : Int) > (lenS lo : Int) then (lenS hi : Int) else (lenS lo : Int)
def inN (lo hi n : Int) : V := if lo ≤ n ∧ n ≤ hi then .int n else .non
def spNum (K : PySem.W.Frag) : Sp := fun vs H Q _ => ∃ v lo hi, vs = [v, .int lo, .int hi] ∧ lo.natAbs.log2 < 1920 ∧ hi.natAbs.log2 < 1920 ∧ lenS lo ≤ 1000000 ∧ lenS hi ≤ 1000000 ∧
  ((∃ t, TyX K H v (.type t) ∧ kitB t "str" = some false ∧ Q .non H) ∨
   (∃ x, v = .str x ∧ x.length ≤ 1000000 ∧ (digs x).length ≤ 1000000 ∧ ((plainB x = false ∧ Q .non H) ∨ (plainB x = true ∧ mxL lo hi < (x.length : Int) ∧ Q .non H) ∨
      (plainB x = true ∧ (x.length : Int) ≤ mxL lo hi ∧ x.length ≤ 640 ∧ ∃ n, PySem.intText? x = some n ∧ Q (inN lo hi n) H))))
structure Blt3 (mg : Str → Option Value) : Prop extends Blt2 mg where
  max : mg "max" = none
section
variable {P : Program} {w : World} {K : PySem.W.Frag} {mg : Str → Option Value} {base : Heap} {f fP : Addr} {fd fdP : FuncData}
abbrev scNum_N : List Str := ["word", "least", "most", "number"]
theorem scNum : FnScope scNum_N ["word", "least", "most"] (defScope sNum) := ⟨rfl, rfl, rfl, by decide +kernel, rfl, by decide +kernel, by decide +kernel⟩
theorem ok_num (F : FnP K "number_of" sNum f fd) (T : Blt3 mg) (FP : FnP K "is_plain_number" sPlain fP fdP) (gP : mg "is_plain_number" = some (.ref fP)) : FnOk P w K mg base CX0 2 f fd ["word", "least", "most"] (spNum K) := by
  have GP : FnOk P w K mg base CX0 1 fP fdP ["word"] spPlain := ok_plain FP
  have bP : L2.Binds K fdP ["word"] [] := FP.bindsN fun _ _ _ _ _ _ us hl => match us, hl with | [_], _ => rfl
  refine F.ok scNum (fun vs H Q E h => ?_) (fun cdv A outer s H vs Q E hr h => ?_)
  · obtain ⟨v, lo, hi, rfl, _⟩ := h
    rfl
  · obtain ⟨v, lo, hi, rfl, g1, g2, g3, g4, h⟩ := h
    refine ⟨_, PSs.nox (pss_cons (ps_if (PW.pt (pw_or (pt_not (pt_val (pe_callB call_isi (by rfl) T.isi PyProof.Rows.boot_isinstance (pa_cons (pv 0) (pa_cons (pe_bltn (v := .ty "str") (by rfl) T.str boot_T rfl) pa_nil)))))
        (pw_or1 (pt_not (pt_val (pe_call GP hr (by rfl) gP FP.kp bP .nil pass0 (pa_cons (pv 0) pa_nil))))))) (pss_one (ps_ret pe_non)) pss_nil)
      (pss_cons (ps_if (pt_cmpR op_gt (pe_callB call_len_str (by rfl) T.len PySem.boot_len (pa_cons (pv 0) pa_nil)) (pe_callB (call_max2 rfl) (by rfl) T.max (by decide +kernel)
          (pa_cons (pe_callB call_len_str (by rfl) T.len PySem.boot_len (pa_cons (pe_callTy call_str_int (by rfl) T.str boot_T (pa_cons (pv 1) pa_nil)) pa_nil))
          (pa_cons (pe_callB call_len_str (by rfl) T.len PySem.boot_len (pa_cons (pe_callTy call_str_int (by rfl) T.str boot_T (pa_cons (pv 2) pa_nil)) pa_nil)) pa_nil))) (nomark _)) (pss_one (ps_ret pe_non)) pss_nil)
      (pss_cons (ps_set (i := 3) scNum.nd rfl (.inl rfl) (pe_callTy call_int_str (by rfl) T.int boot_int (pa_cons (pv 0) pa_nil)))
      (pss_one (ps_ret (pe_ifExp (pt_chain op_le op_le (pv 1) (pv 3) (pv 2)) (pv 3) pe_non)))))), ?_⟩
    have z1 : lenS lo ≤ sizeLine := by rw [sizeLine_eq]; omega
    have z2 : lenS hi ≤ sizeLine := by rw [sizeLine_eq]; omega
    rcases h with ⟨t, ht, e, k⟩ | ⟨x, rfl, hz, hd, h⟩
    · exact ⟨v, rfl, v, .ty "str", _, _, false, rfl, .ty _, ht, kit_ty e, false, rfl, if_posB rfl (if_posB rfl k)⟩
    · refine ⟨.str x, rfl, .str x, .ty "str", _, _, true, rfl, .ty _, .base (.str x), kit_ty (by decide +kernel), true, rfl, if_negB rfl ⟨.str x, rfl, x, rfl, hz, hd, plainB x, rfl, ?_⟩⟩
      rcases h with ⟨e, k⟩ | ⟨e, l, k⟩ | ⟨e, l, l2, n, hn, k⟩
      · rw [e]
        exact if_posB rfl k
      · rw [e]
        refine if_negB rfl ⟨.str x, rfl, x, rfl, by rw [sizeLine_eq]; omega, .int lo, rfl, lo, rfl, g1, toString lo, rfl, z1, .int hi, rfl, hi, rfl, g2, toString hi, rfl, z2, _, _, rfl, _, _, rfl, rfl, _, rfl, ?_⟩
        exact if_posB (decide_eq_true l) k
      · rw [e]
        refine if_negB rfl ⟨.str x, rfl, x, rfl, by rw [sizeLine_eq]; omega, .int lo, rfl, lo, rfl, g1, toString lo, rfl, z1, .int hi, rfl, hi, rfl, g2, toString hi, rfl, z2, _, _, rfl, _, _, rfl, rfl, _, rfl, ?_⟩
        refine if_negB (decide_eq_false (Int.not_lt.mpr l)) ⟨.str x, rfl, x, n, rfl, hn, l2, ?_⟩
        refine ⟨.int lo, by simp [L2.start], .int n, by simp [L2.start], lo, n, rfl, rfl, _, rfl, ?_⟩
        unfold inN at k
        by_cases h1 : lo ≤ n
        · refine if_posB (decide_eq_true h1) ⟨.int hi, by simp [L2.start], n, hi, rfl, rfl, _, rfl, ?_⟩
          by_cases h2 : n ≤ hi
          · rw [if_pos ⟨h1, h2⟩] at k
            exact if_posB (decide_eq_true h2) ⟨_, by simp [L2.start], k⟩
          · rw [if_neg fun z => h2 z.2] at k
            exact if_negB (decide_eq_false h2) k
        · rw [if_neg fun z => h1 z.1] at k
          exact if_negB (decide_eq_false h1) ⟨_, rfl, if_negB rfl k⟩
end
end K8
set_option Elab.async false
set_option linter.all false
set_option maxRecDepth 100000
set_option maxHeartbeats 1000000
namespace K8
open PySem PySem.Spec PyProof.Rows L2 RV EV He EF EI
/-! The class Words: take, end, take_by, take_fix, take_number. -/
theorem _root_.L2.FnOk.up0 {P : Program} {w : World} {K : PySem.W.Frag} {mg : Str → Option Value} {base : Heap} {CX : CXT} {k : Nat} {f : Addr} {fd : FuncData} {ps : List Str} {sp : Sp} (F : FnOk P w K mg base CX0 k f fd ps sp) : FnOk P w K mg base CX k f fd ps sp :=
  ⟨F.len, fun A outer s H args us vs Q E hr e0 hb r h => codeAny_mono (F.run A outer s H args us vs Q E hr e0 hb r h) fun rs s' hq => by
    cases rs with
    | error e => exact (show False from hq).elim
    | ok fl => cases fl <;> exact hq⟩
/-- the next word is taken, or refused -/
structure Out (K : PySem.W.Frag) (H : Hp) (p dx tp : Addr) (ws : List Str) (ln : Int) (t : Nat) (b : Bool) (v : V) (Q : VK) (E : XK) : Prop where
  yes : b = true → ∀ H', SameW H H' p → WO K H' p dx tp ws ln (t + 1) → Q v H'
  no : b = false → ∀ H', Same H H' → BadE K H' E (.int ln) (.int t)
theorem Same.tw {H H1 H2 : Hp} {p : Addr} (a : Same H H1) (b : SameW H1 H2 p) : SameW H H2 p := fun c o hc e => b c o hc (a c o e)
theorem nextB_lt {ws : List Str} {t : Nat} {ss : List Str} (h : nextB ws t ss = true) : t < ws.length := of_decide_eq_true (Bool.and_eq_true_iff.mp h).1
def spTake0 (K : PySem.W.Frag) : Sp := fun vs H Q E => ∃ p dx tp ws ln t T ss, vs = [.ref p, .ref T] ∧ WO K H p dx tp ws ln t ∧ H T = some (.tup (ss.map V.str)) ∧ ss.length ≤ 300 ∧ Out K H p dx tp ws ln t (nextB ws t ss) (.str (ws.getD t "")) Q E
section
variable {P : Program} {w : World} {K : PySem.W.Frag} {mg : Str → Option Value} {base : Heap}
/-- the methods as they are called -/
structure MC (P : Program) (w : World) (K : PySem.W.Frag) (mg : Str → Option Value) (base : Heap) : Prop where
  nx : FnR P w K mg base CX0 1 (mAd K "is_next") (spStar (spNext0 K))
  st : ∃ fd, FnOk P w K mg base CX0 1 (mAd K "step") fd ["self"] (spStep K) ∧ L2.Binds K fd ["self"] []
  rf : ∃ fd, FnOk P w K mg base (L2.CX P w) 3 (mAd K "refuse") fd ["self"] (spRefuse K) ∧ L2.Binds K fd ["self"] []
theorem mc (T : KF P w K mg base) : MC P w K mg base := by
  obtain ⟨_, f1, F1⟩ := T.meth ("step", 10) (by decide)
  obtain ⟨_, f2, F2⟩ := T.meth ("refuse", 11) (by decide)
  exact ⟨ok_next T, ⟨f1, ok_step T F1, FunD.bindsN F1 fun _ _ _ _ _ _ us hl => match us, hl with | [_], _ => rfl⟩, ⟨f2, ok_refuse T F2, FunD.bindsN F2 fun _ _ _ _ _ _ us hl => match us, hl with | [_], _ => rfl⟩⟩
theorem mt (T : KF P w K mg base) (q : Str × Nat) (h : q ∈ methN) : Meth K (gW K) q.1 (mAd K q.1) := (T.meth q h).1
abbrev scTk_N : List Str := ["self", "some"]
theorem scTk : FnScope scTk_N ["self", "some"] (defScope (wSt 6)) := ⟨rfl, rfl, rfl, by decide +kernel, rfl, by decide +kernel, by decide +kernel⟩
theorem ok_take (T : KF P w K mg base) : FnR P w K mg base (L2.CX P w) 4 (mAd K "take") (spStar (spTake0 K)) := by
  obtain ⟨_, fd, F⟩ := T.meth ("take", 6) (by decide)
  obtain ⟨nx, ⟨fS, GS, bS⟩, ⟨fR, GR, bR⟩⟩ := mc T
  obtain ⟨oc, od, dV, kV, doc, pm, an, cdv, ct, osl, rfl, lk, hcd, hD, hK⟩ := F.ex
  rcases hD with ⟨_, rfl⟩ | ⟨e, _⟩
  case inr => exact absurd rfl e
  refine StX.fn_star (ps := ["self"]) (pv := "some") lk hcd scTk StX.cxUp (StX.bind_star1 (B := fun us => bindArgs _ ⟨us, []⟩) (fun a => rfl) fun a r rs => rfl) fun A outer s H vs Q E hr h => ?_
  obtain ⟨p, dx, tp, ws, ln, t, T', ss, rfl, O, hT, hz, k⟩ := h
  refine ⟨_, pss_cons (ps_if (pt_not (pt_val (pe_methS (E := E0) (pv 0) T.cl T.nb nx (hr.mono (by decide)) pass0 (pv 1))))
      (pss_one (ps_expr (pe_meth0 (E := E) (pv 0) T.cl (mt T ("refuse", 11) (by decide)) GR hr bR .nil (passes_call (takes_of rfl rfl rfl rfl) fun _ _ _ _ h => h)))) pss_nil)
    (pss_one (ps_ret (pe_meth0 (E := E0) (pv 0) T.cl (mt T ("step", 10) (by decide)) GS (hr.mono (by decide)) bS .nil pass0))), ?_⟩
  refine ⟨_, rfl, p, dx, _, rfl, O.ob, rfl, fun q nq => ?_⟩
  have s1 := same_new (o := .met (mAd K "is_next") p) nq
  refine ⟨_, rfl, T', _, rfl, SqT.of (s1 _ _ hT), upd_same, nxt_of ss (O.same s1) hz fun H2 s2 => ⟨nextB ws t ss, rfl, ?_⟩⟩
  have s2 := s1.trans s2
  have O2 := O.same s2
  cases e : nextB ws t ss with
  | true => exact if_negB rfl ⟨_, rfl, p, dx, _, rfl, O2.ob, rfl, p, dx, tp, ws, ln, t, rfl, O2, nextB_lt e, fun H3 s3 O3 => k.yes e H3 (Same.tw s2 s3) O3⟩
  | false => exact if_posB rfl ⟨_, rfl, p, dx, _, rfl, O2.ob, rfl, p, dx, tp, ws, ln, t, rfl, O2, k.no e H2 s2⟩
theorem tak_of {H : Hp} {Q : VK} {E : XK} {p dx tp : Addr} {ws : List Str} {ln : Int} {t : Nat} (ss : List Str) (O : WO K H p dx tp ws ln t) (hz : ss.length ≤ 300) (k : Out K H p dx tp ws ln t (nextB ws t ss) (.str (ws.getD t "")) Q E) :
    spStar (spTake0 K) (.ref p :: ss.map V.str) H Q E := by
  refine ⟨[.ref p], ss.map V.str, rfl, rfl, by rw [List.length_map, sizeLine_eq]; omega, fun T nT => ?_⟩
  have s := same_new (o := .tup (ss.map V.str)) nT
  exact ⟨p, dx, tp, ws, ln, t, T, ss, rfl, O.same s, upd_same, hz, ⟨fun e H' s' O' => k.yes e H' (Same.tw s s') O', fun e H' s' => k.no e H' (s.trans s')⟩⟩
/-! end -/
def spEnd (K : PySem.W.Frag) : Sp := fun vs H Q E => ∃ p dx tp ws ln t, vs = [.ref p] ∧ WO K H p dx tp ws ln t ∧ (t = ws.length → ∀ H', Same H H' → Q .non H') ∧ (t < ws.length → ∀ H', Same H H' → BadE K H' E (.int ln) (.int t))
theorem scEn : FnScope ["self"] ["self"] (defScope (wSt 13)) := ⟨rfl, rfl, rfl, by decide +kernel, rfl, by decide +kernel, by decide +kernel⟩
theorem ok_end (T : KF P w K mg base) {fd : FuncData} (F : FunD K "end" "Words.end" (defArgs (wSt 13)) (defBody (wSt 13)) (defScope (wSt 13)) [] [] (mAd K "end") fd) : FnOk P w K mg base (L2.CX P w) 4 (mAd K "end") fd ["self"] (spEnd K) := by
  obtain ⟨nx, ⟨fS, GS, bS⟩, ⟨fR, GR, bR⟩⟩ := mc T
  refine F.ok scEn (fun vs H Q E h => ?_) (fun cdv A outer s H vs Q E hr h => ?_)
  · obtain ⟨p, dx, tp, ws, ln, t, rfl, _⟩ := h
    rfl
  · obtain ⟨p, dx, tp, ws, ln, t, rfl, O, k1, k2⟩ := h
    refine ⟨_, pss_one (ps_if (pt_val (pe_meth0R (E := E0) (pv 0) T.cl (mt T ("is_next", 5) (by decide)) nx (hr.mono (by decide)) pass0))
      (pss_one (ps_expr (pe_meth0 (E := E) (pv 0) T.cl (mt T ("refuse", 11) (by decide)) GR hr bR .nil (passes_call (takes_of rfl rfl rfl rfl) fun _ _ _ _ h => h)))) pss_nil), ?_⟩
    refine ⟨_, rfl, p, dx, _, rfl, O.ob, rfl, nxt_of [] O (by decide) fun H2 s2 => ⟨_, rfl, ?_⟩⟩
    by_cases h : t < ws.length
    · refine if_posB (by unfold nextB; rw [decide_eq_true h]; rfl) ⟨_, rfl, p, dx, _, rfl, (O.same s2).ob, rfl, p, dx, tp, ws, ln, t, rfl, O.same s2, k2 h H2 s2⟩
    · have := O.le
      refine if_negB (by unfold nextB; rw [decide_eq_false h]; rfl) (k1 (by omega) H2 s2)
/-! take_by -/
def spBy (K : PySem.W.Frag) (r : Addr) (spr : Sp) : Sp := fun vs H Q E => ∃ p dx tp ws ln t, vs = [.ref p, .ref r] ∧ WO K H p dx tp ws ln t ∧ (t = ws.length → ∀ H', Same H H' → BadE K H' E (.int ln) (.int t)) ∧
  (t < ws.length → ∀ (H1 : Hp) (Q1 : VK), Same H H1 → (∀ b H2, Same H1 H2 → Out K H2 p dx tp ws ln t b (.str (ws.getD t "")) Q E → Q1 (.bl b) H2) → spr [.str (ws.getD t "")] H1 Q1 E)
abbrev scBy_N : List Str := ["self", "rule"]
theorem scBy : FnScope scBy_N ["self", "rule"] (defScope (wSt 9)) := ⟨rfl, rfl, rfl, by decide +kernel, rfl, by decide +kernel, by decide +kernel⟩
theorem ok_by (T : KF P w K mg base) {fd fdr : FuncData} {r : Addr} {psr : List Str} {spr : Sp} {kr : Nat} (F : FunD K "take_by" "Words.take_by" (defArgs (wSt 9)) (defBody (wSt 9)) (defScope (wSt 9)) [] [] (mAd K "take_by") fd)
    (R : FnOk P w K mg base (L2.CX P w) kr r fdr psr spr) (hk : kr ≤ 3) (kp : PySem.W.keepIn K (.ref r) = true) (br : L2.Binds K fdr psr []) : FnOk P w K mg base (L2.CX P w) 4 (mAd K "take_by") fd ["self", "rule"] (spBy K r spr) := by
  obtain ⟨nx, ⟨fS, GS, bS⟩, ⟨fR, GR, bR⟩⟩ := mc T
  refine F.ok scBy (fun vs H Q E h => ?_) (fun cdv A outer s H vs Q E hr h => ?_)
  · obtain ⟨p, dx, tp, ws, ln, t, rfl, _⟩ := h
    rfl
  · obtain ⟨p, dx, tp, ws, ln, t, rfl, O, k1, k2⟩ := h
    refine ⟨_, pss_cons (ps_if (PW.pt (pw_or (pt_not (pt_val (pe_meth0R (E := E0) (pv 0) T.cl (mt T ("is_next", 5) (by decide)) nx (hr.mono (by decide)) pass0)))
          (pw_or1 (pt_cmpR op_isnot_bl (pe_callL (i := 1) (f := r) (E := E) (dvs := []) R (hr.mono hk) rfl (.inl rfl) kp br .nil (passes_call (takes_of rfl rfl rfl rfl) fun _ _ _ _ h => h) (pa_cons (pe_ix ix_tup (pe_fld (pv 0) rfl) (pe_fld (pv 0) rfl) (fun _ _ => rfl)) pa_nil)) pe_bl (nomark _)))))
        (pss_one (ps_expr (pe_meth0 (E := E) (pv 0) T.cl (mt T ("refuse", 11) (by decide)) GR hr bR .nil (passes_call (takes_of rfl rfl rfl rfl) fun _ _ _ _ h => h)))) pss_nil)
      (pss_one (ps_ret (pe_meth0 (E := E0) (pv 0) T.cl (mt T ("step", 10) (by decide)) GS (hr.mono (by decide)) bS .nil pass0))), ?_⟩
    refine ⟨_, rfl, p, dx, _, rfl, O.ob, rfl, nxt_of [] O (by decide) fun H1 s1 => ⟨nextB ws t [], rfl, ?_⟩⟩
    have O1 := O.same s1
    by_cases h : t < ws.length
    · rw [show nextB ws t [] = true by unfold nextB; rw [decide_eq_true h]; rfl]
      refine if_negB rfl ⟨rfl, _, rfl, p, _, dx, _, _, rfl, O1.ob, T.cl, T.noP, rfl, _, rfl, p, _, dx, _, _, rfl, O1.ob, T.cl, T.noT, rfl, tp, _, _, .str (ws.getD t ""), rfl, rfl, SqT.of O1.ps, atI_nat ?_, ?_⟩
      · rw [List.getElem?_map, getD_at h]
        rfl
      · refine k2 h H1 _ s1 fun b H2 s2 o => ⟨b, true, rfl, rfl, _, rfl, ?_⟩
        have O2 := O1.same s2
        cases b with
        | true => exact if_negB rfl ⟨_, rfl, p, dx, _, rfl, O2.ob, rfl, p, dx, tp, ws, ln, t, rfl, O2, h, fun H3 s3 O3 => o.yes rfl H3 s3 O3⟩
        | false => exact if_posB rfl ⟨_, rfl, p, dx, _, rfl, O2.ob, rfl, p, dx, tp, ws, ln, t, rfl, O2, o.no rfl H2 fun _ _ e => e⟩
    · rw [show nextB ws t [] = false by unfold nextB; rw [decide_eq_false h]; rfl]
      have := O.le
      exact if_posB rfl (if_posB rfl ⟨_, rfl, p, dx, _, rfl, O1.ob, rfl, p, dx, tp, ws, ln, t, rfl, O1, k1 (by omega) H1 s1⟩)
theorem Out.same {H H1 : Hp} {p dx tp : Addr} {ws : List Str} {ln : Int} {t : Nat} {b : Bool} {v : V} {Q : VK} {E : XK} (o : Out K H p dx tp ws ln t b v Q E) (s : Same H H1) : Out K H1 p dx tp ws ln t b v Q E :=
  ⟨fun e H' s' O' => o.yes e H' (Same.tw s s') O', fun e H' s' => o.no e H' (s.trans s')⟩
/-! take_fix -/
def spTFix (K : PySem.W.Frag) : Sp := fun vs H Q E => ∃ p dx tp ws ln t, vs = [.ref p] ∧ WO K H p dx tp ws ln t ∧ (∀ x ∈ ws, x.length ≤ 1000000) ∧ Out K H p dx tp ws ln t (decide (t < ws.length) && isFixB (ws.getD t "")) (.str (ws.getD t "")) Q E
theorem scTf : FnScope ["self"] ["self"] (defScope (wSt 7)) := ⟨rfl, rfl, rfl, by decide +kernel, rfl, by decide +kernel, by decide +kernel⟩
theorem getD_mem {ws : List Str} {t : Nat} (h : t < ws.length) : ws.getD t "" ∈ ws := List.mem_of_getElem? (getD_at h)
theorem bltW (T : KF P w K mg base) : Blt2 mg := ⟨T.fr _ (by decide), T.fr _ (by decide), T.fr _ (by decide), T.fr _ (by decide), T.fr _ (by decide), T.fr _ (by decide)⟩
theorem ok_tfix (T : KF P w K mg base) {fd : FuncData} (F : FunD K "take_fix" "Words.take_fix" (defArgs (wSt 7)) (defBody (wSt 7)) (defScope (wSt 7)) [] [] (mAd K "take_fix") fd) : FnOk P w K mg base (L2.CX P w) 5 (mAd K "take_fix") fd ["self"] (spTFix K) := by
  obtain ⟨fdF, FF, gF⟩ := T.tops ("is_fix", 6) (by decide)
  obtain ⟨_, fB, FB⟩ := T.meth ("take_by", 9) (by decide)
  have GF : FnOk P w K mg base (L2.CX P w) 1 (ga K "is_fix") fdF ["value"] (spFix K) := (ok_fix FF (bltW T)).up0
  have bF : L2.Binds K fdF ["value"] [] := FunD.bindsN FF fun _ _ _ _ _ _ us hl => match us, hl with | [_], _ => rfl
  have GB := ok_by T FB GF (by decide) FF.kp bF
  have bB : L2.Binds K fB ["self", "rule"] [] := FunD.bindsN FB fun _ _ _ _ _ _ us hl => match us, hl with | [_, _], _ => rfl
  refine F.ok scTf (fun vs H Q E h => ?_) (fun cdv A outer s H vs Q E hr h => ?_)
  · obtain ⟨p, dx, tp, ws, ln, t, rfl, _⟩ := h
    rfl
  · obtain ⟨p, dx, tp, ws, ln, t, rfl, O, hz, o⟩ := h
    refine ⟨_, pss_one (ps_ret (pe_meth (E := E) (pv 0) T.cl (mt T ("take_by", 9) (by decide)) GB hr bB .nil (passes_call (takes_of rfl rfl rfl rfl) fun _ _ _ _ h => h) (pa_cons (pe_glob (v := .ref (ga K "is_fix")) (by rfl) gF rfl) pa_nil))), ?_⟩
    refine ⟨_, rfl, p, dx, _, rfl, O.ob, rfl, p, dx, tp, ws, ln, t, rfl, O, fun e => ?_, fun h H1 Q1 s1 kq => ?_⟩
    · exact o.no (by rw [decide_eq_false (by omega)]; rfl)
    · refine ⟨_, rfl, .inl ⟨_, rfl, hz _ (getD_mem h), fun H2 s2 => kq _ H2 s2 ?_⟩⟩
      have o2 := (o.same s1).same s2
      rw [decide_eq_true h, Bool.true_and] at o2
      exact o2
/-! take_number -/
/-- number_of tells v of the word x -/
structure NumAt (x : Str) (lo hi : Int) (v : V) : Prop where
  g1 : lo.natAbs.log2 < 1920
  g2 : hi.natAbs.log2 < 1920
  g3 : lenS lo ≤ 1000000
  g4 : lenS hi ≤ 1000000
  x1 : x.length ≤ 1000000
  x2 : (digs x).length ≤ 1000000
  cs : (plainB x = false ∧ v = .non) ∨ (plainB x = true ∧ mxL lo hi < (x.length : Int) ∧ v = .non) ∨ (plainB x = true ∧ (x.length : Int) ≤ mxL lo hi ∧ x.length ≤ 640 ∧ ∃ n, PySem.intText? x = some n ∧ v = inN lo hi n)
def spTNum (K : PySem.W.Frag) : Sp := fun vs H Q E => ∃ p dx tp ws ln t lo hi v, vs = [.ref p, .int lo, .int hi] ∧ WO K H p dx tp ws ln t ∧ (t = ws.length → v = .non) ∧ (t < ws.length → NumAt (ws.getD t "") lo hi v) ∧ Out K H p dx tp ws ln t (!decide (v = .non)) v Q E
abbrev scTn_N : List Str := ["self", "least", "most", "number"]
theorem scTn : FnScope scTn_N ["self", "least", "most"] (defScope (wSt 8)) := ⟨rfl, rfl, rfl, by decide +kernel, rfl, by decide +kernel, by decide +kernel⟩
theorem blt3 (T : KF P w K mg base) : Blt3 mg := ⟨bltW T, T.fr _ (by decide)⟩
theorem ok_tnum (T : KF P w K mg base) {fd : FuncData} (F : FunD K "take_number" "Words.take_number" (defArgs (wSt 8)) (defBody (wSt 8)) (defScope (wSt 8)) [] [] (mAd K "take_number") fd) : FnOk P w K mg base (L2.CX P w) 4 (mAd K "take_number") fd ["self", "least", "most"] (spTNum K) := by
  obtain ⟨fdN, FN, gN⟩ := T.tops ("number_of", 33) (by decide)
  obtain ⟨fdP, FP, gP⟩ := T.tops ("is_plain_number", 34) (by decide)
  have GN : FnOk P w K mg base CX0 2 (ga K "number_of") fdN ["word", "least", "most"] (spNum K) := ok_num FN (blt3 T) FP gP
  have bN : L2.Binds K fdN ["word", "least", "most"] [] := FunD.bindsN FN fun _ _ _ _ _ _ us hl => match us, hl with | [_, _, _], _ => rfl
  obtain ⟨nx, ⟨fS, GS, bS⟩, ⟨fR, GR, bR⟩⟩ := mc T
  refine F.ok scTn (fun vs H Q E h => ?_) (fun cdv A outer s H vs Q E hr h => ?_)
  · obtain ⟨p, dx, tp, ws, ln, t, lo, hi, v, rfl, _⟩ := h
    rfl
  · obtain ⟨p, dx, tp, ws, ln, t, lo, hi, v, rfl, O, h0, h1, o⟩ := h
    refine ⟨_, pss_cons (ps_set (i := 3) scTn.nd rfl (.inl rfl) pe_non) (pss_cons (ps_if (pt_val (pe_meth0R (E := E0) (pv 0) T.cl (mt T ("is_next", 5) (by decide)) nx (hr.mono (by decide)) pass0))
        (pss_one (ps_set (i := 3) scTn.nd rfl (.inl rfl) (pe_call (E := E0) GN (hr.mono (by decide)) (by rfl) gN FN.kp bN .nil pass0 (pa_cons (pe_ix ix_tup (pe_fld (pv 0) rfl) (pe_fld (pv 0) rfl) (fun _ _ => rfl)) (pa_cons (pv 1) (pa_cons (pv 2) pa_nil)))))) pss_nil)
      (pss_cons (ps_if (pt_cmpR op_isN (pv 3) pe_non (nomark _)) (pss_one (ps_expr (pe_meth0 (E := E) (pv 0) T.cl (mt T ("refuse", 11) (by decide)) GR hr bR .nil (passes_call (takes_of rfl rfl rfl rfl) fun _ _ _ _ h => h)))) pss_nil)
      (pss_cons (ps_expr (pe_meth0 (E := E0) (pv 0) T.cl (mt T ("step", 10) (by decide)) GS (hr.mono (by decide)) bS .nil pass0)) (pss_one (ps_ret (pv 3)))))), ?_⟩
    refine ⟨_, rfl, p, dx, _, rfl, O.ob, rfl, nxt_of [] O (by decide) fun H1 s1 => ⟨nextB ws t [], rfl, ?_⟩⟩
    have O1 := O.same s1
    by_cases h : t < ws.length
    · rw [show nextB ws t [] = true by unfold nextB; rw [decide_eq_true h]; rfl]
      refine if_posB rfl ⟨_, rfl, p, _, dx, _, _, rfl, O1.ob, T.cl, T.noP, rfl, _, rfl, p, _, dx, _, _, rfl, O1.ob, T.cl, T.noT, rfl, tp, _, _, .str (ws.getD t ""), rfl, rfl, SqT.of O1.ps, atI_nat ?_, .int lo, by simp [L2.start], .int hi, by simp [L2.start], ?_⟩
      · rw [List.getElem?_map, getD_at h]
        rfl
      · have n := h1 h
        refine ⟨_, lo, hi, rfl, n.g1, n.g2, n.g3, n.g4, .inr ⟨_, rfl, n.x1, n.x2, ?_⟩⟩
        rcases n.cs with ⟨e, rfl⟩ | ⟨e, l, rfl⟩ | ⟨e, l, l2, m, hm, rfl⟩
        case' inl => refine .inl ⟨e, ?_⟩
        case' inr.inl => refine .inr (.inl ⟨e, l, ?_⟩)
        case' inr.inr => refine .inr (.inr ⟨e, l, l2, m, hm, ?_⟩)
        all_goals
          refine ⟨_, by simp [L2.start]; rfl, rfl, _, rfl, ?_⟩
          refine ite2 (fun e2 => ?_) (fun e2 => ?_)
          · exact ⟨.ref p, by simp [L2.start], p, dx, _, rfl, O1.ob, rfl, p, dx, tp, ws, ln, t, rfl, O1, o.no (by rw [e2]; rfl) H1 s1⟩
          · exact ⟨.ref p, by simp [L2.start], p, dx, _, rfl, O1.ob, rfl, p, dx, tp, ws, ln, t, rfl, O1, h, fun H3 s3 O3 => ⟨_, by simp [L2.start], o.yes (by rw [eq_false_of_ne_true e2]; rfl) H3 (Same.tw s1 s3) O3⟩⟩
    · rw [show nextB ws t [] = false by unfold nextB; rw [decide_eq_false h]; rfl]
      have := O.le
      have e := h0 (by omega)
      exact if_negB rfl ⟨.non, by simp [L2.start], rfl, _, rfl, if_posB (by decide) ⟨.ref p, by simp [L2.start], p, dx, _, rfl, O1.ob, rfl, p, dx, tp, ws, ln, t, rfl, O1, o.no (by rw [decide_eq_true e]; rfl) H1 s1⟩⟩
end
end K8
set_option Elab.async false
set_option linter.all false
set_option maxRecDepth 100000
set_option maxHeartbeats 1000000
namespace K8
open PySem PySem.Spec PyProof.Rows L2 RV EV He EF EI
section
variable {P : Program} {w : World} {K : PySem.W.Frag} {mg : Str → Option Value} {base : Heap}
def spInit (K : PySem.W.Frag) : Sp := fun vs H Q E => ∃ p dx v ln, vs = [.ref p, v, .int ln] ∧ H p = some (.ins (gW K) dx []) ∧
  ((∃ t, TyX K H v (.type t) ∧ kitB t "str" = some false ∧ BadE K H E (.int ln) (.int 0)) ∨
   ∃ x, v = .str x ∧ x.length ≤ 1000000 ∧ (Txt.split x " ").length ≤ 1000 ∧ ∀ H' tp, SameW H H' p → WO K H' p dx tp (Txt.split x " ") ln 0 → Q .non H')
abbrev scIn_N : List Str := ["self", "text", "line"]
theorem scIn : FnScope scIn_N ["self", "text", "line"] (defScope (wSt 0)) := ⟨rfl, rfl, rfl, by decide +kernel, rfl, by decide +kernel, by decide +kernel⟩
theorem ok_init (T : KF P w K mg base) {fd : FuncData} (F : FunD K "__init__" "Words.__init__" (defArgs (wSt 0)) (defBody (wSt 0)) (defScope (wSt 0)) [.int 0] [] (mAd K "__init__") fd) : FnOk P w K mg base (L2.CX P w) 3 (mAd K "__init__") fd ["self", "text", "line"] (spInit K) := by
  refine F.ok scIn (fun vs H Q E h => ?_) (fun cdv A outer s H vs Q E hr h => ?_)
  · obtain ⟨p, dx, v, ln, rfl, _⟩ := h
    rfl
  · obtain ⟨p, dx, v, ln, rfl, O, k⟩ := h
    refine ⟨_, pss_cons (ps_if (pt_not (pt_val (pe_callB call_isi (by rfl) (T.fr "isinstance" (by decide)) PyProof.Rows.boot_isinstance (pa_cons (pv 1) (pa_cons (pe_bltn (v := .ty "str") (by rfl) (T.fr "str" (by decide)) boot_T rfl) pa_nil)))))
        (pss_one (ps_bad T hr rfl (takes_of rfl rfl rfl rfl) (by rfl) (pv 2) pe_int)) pss_nil)
      (pss_cons (ps_fld (pv 0) (pe_callTy call_tuple_of (by rfl) (T.fr "tuple" (by decide)) boot_T (pa_cons (pe_split (pv 1) pe_str) pa_nil)) rfl)
      (pss_cons (ps_fld (pv 0) (pv 2) rfl) (pss_one (ps_fld (pv 0) pe_int rfl)))), ?_⟩
    rcases k with ⟨t, ht, e, k⟩ | ⟨x, rfl, hz, hl, k⟩
    · refine ⟨v, rfl, v, .ty "str", _, _, false, rfl, .ty _, ht, kit_ty e, false, rfl, if_posB rfl ⟨_, rfl, mkb k⟩⟩
    · refine ⟨.str x, rfl, .str x, .ty "str", _, _, true, rfl, .ty _, .base (.str x), kit_ty (by decide +kernel), true, rfl, if_negB rfl ?_⟩
      refine ⟨_, rfl, ⟨_, rfl⟩, x, " ", rfl, rfl, by decide +kernel, by rw [sizeLine_eq]; omega, fun l nl => ⟨l, _, rfl, .inl ⟨SqL.of upd_same, fun tp nt => ?_⟩⟩⟩
      have n1 : p ≠ l := ne_of_none O nl
      have O1 : upd H l (.lst ((Txt.split x " ").map V.str)) p = some (.ins (gW K) dx []) := by rw [upd_ne n1]; exact O
      have n2 : p ≠ tp := ne_of_none O1 nt
      have O2 : upd (upd H l (.lst ((Txt.split x " ").map V.str))) tp (.tup ((Txt.split x " ").map V.str)) p = some (.ins (gW K) dx []) := by rw [upd_ne n2]; exact O1
      refine ⟨_, rfl, p, gW K, dx, _, rfl, O2, T.cl, T.noP, by show 0 < 1000; decide, ?_⟩
      refine ⟨_, rfl, _, rfl, p, gW K, dx, _, rfl, upd_same, T.cl, T.noL, by show 1 < 1000; decide, ?_⟩
      refine ⟨_, rfl, p, gW K, dx, _, rfl, upd_same, T.cl, T.noT, by show 2 < 1000; decide, ?_⟩
      refine k _ tp (fun c o hc e => ?_) ⟨by rw [upd_same]; rfl, ?_, Nat.zero_le _, hl⟩
      · rw [upd_ne hc, upd_ne hc, upd_ne hc]
        exact ((same_new nl).trans (same_new nt)) c o e
      · rw [upd_ne (Ne.symm n2), upd_ne (Ne.symm n2), upd_ne (Ne.symm n2)]
        exact upd_same
end
end K8
set_option Elab.async false
set_option linter.all false
set_option maxRecDepth 100000
set_option maxHeartbeats 4000000
/-! What number a word writes. -/
namespace K8
open PySem PySem.Spec PyProof.Rows L2 RV EV He EF EI
abbrev iS (i : Int) : Str := (toString i : Str)
/-- the number from lo to hi that the word writes -/
def numW (x : Str) (lo hi : Int) : Option Int := ((List.range 201).map Int.ofNat).find? fun n => decide (lo ≤ n) && (decide (n ≤ hi) && decide (iS n = x))
def numV (x : Str) (lo hi : Int) : V := match numW x lo hi with
  | some n => .int n
  | none => .non
def alph : List Nat := [45, 48, 49, 50, 51, 52, 53, 54, 55, 56, 57]
def okL (L : List Nat) : Bool := !plainB ⟨L.toArray⟩ || match PySem.intText? ⟨L.toArray⟩ with
  | some n => decide (n < 1) || decide (iS n = ⟨L.toArray⟩)
  | none => false
theorem ok0 : okL [] = true := by decide +kernel
theorem ok1 : ∀ a ∈ alph, okL [a] = true := by decide +kernel
theorem ok2 : ∀ a ∈ alph, ∀ b ∈ alph, okL [a, b] = true := by decide +kernel
theorem ok3 : ∀ a ∈ alph, ∀ b ∈ alph, ∀ c ∈ alph, okL [a, b, c] = true := by decide +kernel
theorem small_dig : ∀ c : Nat, c < 128 → Unicode.isDigit c = true → c ∈ alph := by decide +kernel
theorem n_facts : ∀ n : Nat, n < 202 → (n.log2 < 1920 ∧ lenS (n : Int) = (if n < 10 then 1 else if n < 100 then 2 else 3)) ∧ (plainB (iS (n : Int)) = true ∧ PySem.intText? (iS (n : Int)) = some (n : Int)) := by decide +kernel
open PySem.Builtin.Str PySem.Txt in
theorem digs_cases (x : Str) : digs x = x ∨ x.cps.toList = 45 :: (digs x).cps.toList := by
  unfold digs Txt.removeprefix
  by_cases h : subAt x "-" 0 = true
  · rw [if_pos h]
    right
    have h2 : x.cps.extract 0 (0 + (("-" : Str)).length) = (("-" : Str)).cps := by
      unfold subAt at h
      exact eq_of_beq h
    have l1 : (("-" : Str)).length = 1 := by decide
    have l2 : (("-" : Str)).cps.toList = [45] := by decide
    have h3 := congrArg Array.toList h2
    rw [l1, l2, Array.toList_extract] at h3
    rcases e : x.cps.toList with _ | ⟨c, r⟩
    · rw [e] at h3
      exact absurd h3 (by decide)
    · rw [e] at h3
      have hc : c = 45 := by
        have : (List.take 1 (c :: r)) = [c] := rfl
        simp [List.extract] at h3
        exact h3
      subst hc
      have hl : x.length = r.length + 1 := by
        show x.cps.size = _
        rw [← Array.length_toList, e]
        rfl
      have e2 : affix x (some ((("-" : Str)).length, x.length)) = strSub x 1 x.length := by
        unfold affix
        rw [l1, hl]
        show (if (r.length + 1 - 1 == r.length + 1) = true then x else strSub x 1 (r.length + 1)) = _
        rw [if_neg (by simp)]
      rw [e2]
      congr 1
      have e3 : (strSub x 1 x.length).cps = x.cps.extract 1 x.length := rfl
      rw [e3, Array.toList_extract, e, hl]
      simp [List.extract]
  · rw [if_neg h]
    exact .inl rfl
theorem alph_of {x : Str} (h : plainB x = true) : ∀ c ∈ x.cps.toList, c ∈ alph := by
  unfold plainB at h
  obtain ⟨h1, h2⟩ := Bool.and_eq_true_iff.mp h
  obtain ⟨h2, _⟩ := Bool.and_eq_true_iff.mp h2
  have hd : ∀ c ∈ (digs x).cps.toList, c ∈ alph := fun c hc => by
    unfold Txt.isascii at h1
    unfold Txt.isdigit at h2
    have a := Array.all_eq_true'.mp h1 c (Array.mem_toList_iff.mp hc)
    have b := Array.all_eq_true'.mp (Bool.and_eq_true_iff.mp h2).2 c (Array.mem_toList_iff.mp hc)
    exact small_dig c (of_decide_eq_true a) b
  rcases digs_cases x with e | e
  · rw [e] at hd
    exact hd
  · rw [e]
    intro c hc
    rcases List.mem_cons.mp hc with rfl | hc
    · decide
    · exact hd c hc
theorem digs_len (x : Str) : (digs x).length ≤ x.length := by
  rcases digs_cases x with e | e
  · rw [e]
    exact Nat.le_refl _
  · have h := congrArg List.length e
    rw [Array.length_toList, List.length_cons, Array.length_toList] at h
    show (digs x).cps.size ≤ x.cps.size
    omega
theorem plain_short {x : Str} (h : plainB x = true) (hl : x.length ≤ 3) : ∃ n, PySem.intText? x = some n ∧ (n < 1 ∨ iS n = x) := by
  have al := alph_of h
  have hx : x = ⟨x.cps.toList.toArray⟩ := by simp
  have hl2 : x.cps.toList.length ≤ 3 := by rw [Array.length_toList]; exact hl
  have ok : okL x.cps.toList = true := by
    rcases e : x.cps.toList with _ | ⟨a, _ | ⟨b, _ | ⟨c, _ | ⟨d, r⟩⟩⟩⟩ <;> rw [e] at al hl2
    · exact ok0
    · exact ok1 a (al a (by simp))
    · exact ok2 a (al a (by simp)) b (al b (by simp))
    · exact ok3 a (al a (by simp)) b (al b (by simp)) c (al c (by simp))
    · simp at hl2
  unfold okL at ok
  rw [← hx, h] at ok
  simp only [Bool.not_true, Bool.false_or] at ok
  split at ok
  · rename_i n en
    refine ⟨n, en, ?_⟩
    rcases Bool.or_eq_true_iff.mp ok with a | a
    · exact .inl (of_decide_eq_true a)
    · exact .inr (of_decide_eq_true a)
  · cases ok
theorem numW_some {x : Str} {lo hi n : Int} (h : numW x lo hi = some n) : lo ≤ n ∧ n ≤ hi ∧ iS n = x ∧ 0 ≤ n ∧ n ≤ 200 := by
  have hp := List.find?_some h
  obtain ⟨a, b⟩ := Bool.and_eq_true_iff.mp hp
  obtain ⟨b, c⟩ := Bool.and_eq_true_iff.mp b
  have hm := List.mem_of_find?_eq_some h
  obtain ⟨m, hm2, rfl⟩ := List.mem_map.mp hm
  have := List.mem_range.mp hm2
  exact ⟨of_decide_eq_true a, of_decide_eq_true b, of_decide_eq_true c, by exact Int.natCast_nonneg m, by show (m : Int) ≤ 200; omega⟩
theorem iS_text {n : Int} (h0 : 0 ≤ n) (h1 : n ≤ 201) : plainB (iS n) = true ∧ PySem.intText? (iS n) = some n := by
  obtain ⟨m, rfl⟩ := Int.eq_ofNat_of_zero_le h0
  exact (n_facts m (by omega)).2
theorem numW_of {lo hi n : Int} (a : lo ≤ n) (b : n ≤ hi) (h0 : 0 ≤ n) (h1 : n ≤ 200) : numW (iS n) lo hi = some n := by
  cases e : numW (iS n) lo hi with
  | some m =>
    obtain ⟨_, _, e1, c0, c1⟩ := numW_some e
    have i1 := (iS_text h0 (by omega)).2
    rw [← e1, (iS_text c0 (by omega)).2] at i1
    exact i1
  | none =>
    have := List.find?_eq_none.mp e n (by
      obtain ⟨m, rfl⟩ := Int.eq_ofNat_of_zero_le h0
      exact List.mem_map.mpr ⟨m, List.mem_range.mpr (by omega), rfl⟩)
    simp [a, b] at this
theorem lenS_of {n : Int} (h0 : 0 ≤ n) (h1 : n ≤ 201) : n.natAbs.log2 < 1920 ∧ lenS n = (if n < 10 then 1 else if n < 100 then 2 else 3) := by
  obtain ⟨m, rfl⟩ := Int.eq_ofNat_of_zero_le h0
  obtain ⟨⟨a, b⟩, _⟩ := n_facts m (by omega)
  refine ⟨a, b.trans ?_⟩
  repeat' split
  all_goals omega
theorem num_at {x : Str} {lo hi : Int} (l0 : 1 ≤ lo) (l1 : lo ≤ 201) (h0 : 1 ≤ hi) (h1 : hi ≤ 200) (hx : x.length ≤ 1000000) : NumAt x lo hi (numV x lo hi) := by
  obtain ⟨g1, k1⟩ := lenS_of (n := lo) (by omega) l1
  obtain ⟨g2, k2⟩ := lenS_of (n := hi) (by omega) (by omega)
  have m3 : mxL lo hi ≤ 3 := by
    unfold mxL
    rw [k1, k2]
    repeat' split
    all_goals omega
  have none_of : (∀ n, numW x lo hi = some n → False) → numV x lo hi = .non := fun h => by
    unfold numV
    cases e : numW x lo hi with
    | none => rfl
    | some n => exact (h n e).elim
  refine ⟨g1, g2, by rw [k1]; repeat' split
                     all_goals omega, by rw [k2]; repeat' split
                                         all_goals omega, hx, Nat.le_trans (digs_len x) hx, ?_⟩
  cases p : plainB x with
  | false =>
    refine .inl ⟨rfl, none_of fun n e => ?_⟩
    obtain ⟨_, _, e1, c0, c1⟩ := numW_some e
    rw [← e1, (iS_text c0 (by omega)).1] at p
    cases p
  | true =>
    by_cases hl : mxL lo hi < (x.length : Int)
    · refine .inr (.inl ⟨rfl, hl, none_of fun n e => ?_⟩)
      obtain ⟨a, b, e1, c0, c1⟩ := numW_some e
      obtain ⟨_, k3⟩ := lenS_of (n := n) c0 (by omega)
      have k4 : lenS n = x.length := by
        rw [← e1]
        rfl
      unfold mxL at hl
      rw [k1, k2, ← k4, k3] at hl
      repeat' split at hl
      all_goals omega
    · obtain ⟨n, en, hn⟩ := plain_short p (by omega)
      refine .inr (.inr ⟨rfl, by omega, by omega, n, en, ?_⟩)
      unfold inN
      by_cases r : lo ≤ n ∧ n ≤ hi
      · rw [if_pos r]
        rcases hn with hn | hn
        · omega
        · unfold numV
          rw [← hn, numW_of r.1 r.2 (by omega) (by omega)]
      · rw [if_neg r]
        refine none_of fun m e => ?_
        obtain ⟨a, b, e1, c0, c1⟩ := numW_some e
        have := (iS_text c0 (by omega)).2
        rw [e1, en] at this
        cases this
        exact r ⟨a, b⟩
end K8
set_option Elab.async false
set_option linter.all false
set_option maxRecDepth 100000
set_option maxHeartbeats 1000000
/-! raise X(v), raise X(v, u): an own error with its fields. -/
namespace K8
open PySem PySem.Spec PyProof.Rows L2 RV EV He EF EI
/-- what X(v) tells to those that catch it -/
def Bad1 (C : Addr) (f : Str) (H : Hp) (E : XK) (v : V) : Prop := ∀ d, H d = none → E (.ref C) (some d) (upd H d (.xd [(f, v)]))
def Bad2 (C : Addr) (f g : Str) (H : Hp) (E : XK) (v u : V) : Prop := ∀ d, H d = none → E (.ref C) (some d) (upd H d (.xd [(g, u), (f, v)]))
theorem mkb1 {H : Hp} {C : Addr} {f : Str} {v : V} {Q : XK} (q : Bad1 C f H Q v) : [v].length ≤ 1000 ∧ ∀ a, H a = none → spE1 C f (.ref a :: ([v] ++ [])) (upd H a (exo a C none))
      (fun z H2 => z = .non ∧ ∃ (d : Addr) (fs : List (Str × V)), H2 a = some (exo a C (some d)) ∧ H2 d = some (exd d fs) ∧ H d = none ∧ Q (.ref C) (some d) (upd (L2.del H2 a) d (.xd fs))) (fun _ _ _ => False) := by
  refine ⟨by show 1 ≤ 1000; decide, fun a na => ⟨a, v, rfl, upd_same, fun d hd ne => ⟨rfl, d, [(f, v)], ?_⟩⟩⟩
  rw [upd_ne ne] at hd
  rw [mk1_eq ne, mk3_eq na ne]
  exact ⟨(mkE_at ne).ob, (mkE_at ne).dc, hd, q d hd⟩
def tRaise1 (C : Addr) (f : Str) (te : TE) (W : WX) : TS := fun _ σ H => tMkO C (spE1 C f) [] (tCons te tNil) σ H fun cls d H' => W cls d σ H'
section
variable {X : Cx} {W : WX} {e e2 : Expr} {te te2 : TE} {p pos pos2 : Pos} {x f g : Str} {bs : List Str}
theorem ps_raise1 (T : Cl1 X.prog X.w X.K X.mg X.base x f bs) (hr : Room 2 X.A) (hc : X.calm = true) (tk : Takes X W) (hg : Gl X x) (he : PE X e te)
    (hs : starEach [e] X.env = (false, eval e X.env) :: starEach [] X.env := by rfl) (hpl : (backTo pos (starEach [] X.env)).any (·.1) = false := by rfl) (hdb : (x == ("__debug__" : Str)) = false := by decide) :
    PS X (.Raise (some (.Call (.Name x p) [e] [] pos)) none pos2) (tRaise1 (ga X.K x) f te W) := by
  obtain ⟨fI, fd, iC, tI, F1, b1, _⟩ := T.mkr
  exact ps_raise hc tk (pmk_oex (dvs := []) T.e.ox iC tI F1 hr b1 .nil (fun _ _ _ _ _ _ _ z => z.elim) hg T.gl (pa_cons he pa_nil (hs := hs)) hdb hs hpl)
end
end K8
set_option Elab.async false
set_option linter.all false
set_option maxRecDepth 100000
set_option maxHeartbeats 1000000
/-! Values of any plain kind; the checks of what a deed names. -/
namespace K8
open PySem PySem.Spec PyProof.Rows L2 RV EV He EF EI LamX
theorem Same.extN {H H' : Hp} (s : Same H H') : ExtN H H' := fun c o e _ => s c o e
def Same2 (H H' : Hp) (p : Addr) : Prop := ∀ c o, c ≠ p → H c = some o → H' c = some o
theorem Same2.trans {H H1 H2 : Hp} {p : Addr} (a : Same2 H H1 p) (b : Same2 H1 H2 p) : Same2 H H2 p := fun c o n e => b c o n (a c o n e)
theorem Same.two {H H' : Hp} (s : Same H H') (p : Addr) : Same2 H H' p := fun c o _ e => s c o e
theorem two_upd {H : Hp} {p : Addr} {o : HO} : Same2 H (upd H p o) p := fun c u n e => by rw [upd_ne n]; exact e
inductive Atoms : List V → List PyData → Prop
  | nil : Atoms [] []
  | int {i : Int} {xs : List V} {ds : List PyData} : Atoms xs ds → Atoms (.int i :: xs) (.int i :: ds)
  | str {x : Str} {xs : List V} {ds : List PyData} : Atoms xs ds → Atoms (.str x :: xs) (.str x :: ds)
/-- a plain value, and the datum that it is -/
inductive Odd (H : Hp) : V → PyData → Prop
  | non : Odd H .non .none
  | bl (b : Bool) : Odd H (.bl b) (.bool b)
  | int (i : Int) : Odd H (.int i) (.int i)
  | str {x : Str} (h : x.length ≤ 1000) : Odd H (.str x) (.str x)
  | tup {a : Addr} {xs : List V} {ds : List PyData} (h : H a = some (.tup xs)) (r : Atoms xs ds) : Odd H (.ref a) (.tuple ds)
  | lst {a : Addr} {xs : List V} {ds : List PyData} (h : H a = some (.lst xs)) (n : a ≠ sysModules) (r : Atoms xs ds) : Odd H (.ref a) (.list ds)
  | dic {a : Addr} (h : H a = some (.dK [])) : Odd H (.ref a) (.dict [])
theorem Atoms.dats {H : Hp} {xs : List V} {ds : List PyData} (r : Atoms xs ds) : Dats H xs ds := by
  induction r with
  | nil => exact .nil
  | int _ ih => exact .cons (.int _) ih
  | str _ ih => exact .cons (.str _) ih
theorem Odd.dat {H : Hp} {v : V} {d : PyData} (o : Odd H v d) : Dat H v d := by
  cases o with
  | non => exact .non
  | bl b => exact .bl b
  | int i => exact .int i
  | str h => exact .str _
  | tup h r => exact .tup h r.dats
  | lst h n r => exact .lst h n r.dats
  | dic h => exact .dic (kvs := []) (kds := []) h rfl .nil
theorem Odd.ext {H H' : Hp} {v : V} {d : PyData} (o : Odd H v d) (s : ExtN H H') : Odd H' v d := by
  cases o with
  | non => exact .non
  | bl b => exact .bl b
  | int i => exact .int i
  | str h => exact .str h
  | tup h r => exact .tup (s _ _ h (fun _ z => nomatch z)) r
  | lst h n r => exact .lst (s _ _ h (fun _ z => nomatch z)) n r
  | dic h => exact .dic (s _ _ h (fun _ z => nomatch z))
theorem Odd.same {H H' : Hp} {v : V} {d : PyData} (o : Odd H v d) (s : Same H H') : Odd H' v d := o.ext (Same.extN s)
/-- what changes at p alone keeps it, where at p stands none of these -/
theorem Odd.two {H H' : Hp} {v : V} {d : PyData} {p : Addr} {u : HO} (o : Odd H v d) (hp : H p = some u) (h1 : ∀ xs, u ≠ .tup xs) (h2 : ∀ xs ds, Atoms xs ds → u ≠ .lst xs) (h3 : ∀ k, u ≠ .dK k) (s : Same2 H H' p) : Odd H' v d := by
  cases o with
  | non => exact .non
  | bl b => exact .bl b
  | int i => exact .int i
  | str h => exact .str h
  | tup h r => exact .tup (s _ _ (fun e => by rw [e, hp] at h; exact h1 _ (Option.some.inj h)) h) r
  | lst h n r => exact .lst (s _ _ (fun e => by rw [e, hp] at h; exact h2 _ _ r (Option.some.inj h)) h) n r
  | dic h => exact .dic (s _ _ (fun e => by rw [e, hp] at h; exact h3 _ (Option.some.inj h)) h)
theorem Odd.ins {H H' : Hp} {v : V} {d : PyData} {p C dx : Addr} {fs : List (Str × V)} (o : Odd H v d) (hp : H p = some (.ins C dx fs)) (s : Same2 H H' p) : Odd H' v d :=
  o.two hp (fun _ z => nomatch z) (fun _ _ _ z => nomatch z) (fun _ z => nomatch z) s
theorem Odd.pen {H H' : Hp} {v : V} {d : PyData} {p a : Addr} {cs : List Int} {b g : Int} (o : Odd H v d) (N : Pen H p a cs b g) (s : Same2 H H' p) : Odd H' v d :=
  o.two N.pn (fun _ z => nomatch z) (fun xs ds r z => by
    have e : [V.ref a, .int b, .int g] = xs := HO.lst.inj z
    subst e
    cases r) (fun _ z => nomatch z) s
def inB (v : V) (lo hi : Int) : Bool := match v with
  | .int i => decide (lo ≤ i) && decide (i ≤ hi)
  | _ => false
def fixB (v : V) : Bool := match v with
  | .str x => isFixB x
  | _ => false
def intV (v : V) : Int := match v with
  | .int i => i
  | _ => 0
section
variable {K : PySem.W.Frag} {H : Hp} {v : V} {d : PyData} {lo hi : Int} {Q : VK} {E : XK}
theorem within_odd (o : Odd H v d) (k : Q (.bl (inB v lo hi)) H) : spWithin K [v, .int lo, .int hi] H Q E := by
  cases o with
  | non => exact ⟨_, "NoneType", false, false, _, _, rfl, .base .non, by decide +kernel, by decide +kernel, .inl ⟨rfl, k⟩⟩
  | bl b => exact ⟨_, "bool", true, true, _, _, rfl, .base (.bl b), by decide +kernel, by decide +kernel, .inl ⟨rfl, k⟩⟩
  | int i => exact ⟨_, "int", true, false, _, _, rfl, .base (.int i), by decide +kernel, by decide +kernel, .inr ⟨rfl, i, rfl, k⟩⟩
  | str h => exact ⟨_, "str", false, false, _, _, rfl, .base (.str _), by decide +kernel, by decide +kernel, .inl ⟨rfl, k⟩⟩
  | tup h r => exact ⟨_, "tuple", false, false, _, _, rfl, .base (.tup h), by decide +kernel, by decide +kernel, .inl ⟨rfl, k⟩⟩
  | lst h n r => exact ⟨_, "list", false, false, _, _, rfl, .base (.lst h), by decide +kernel, by decide +kernel, .inl ⟨rfl, k⟩⟩
  | dic h => exact ⟨_, "dict", false, false, _, _, rfl, .base (.dK h), by decide +kernel, by decide +kernel, .inl ⟨rfl, k⟩⟩
def isI (v : V) : Bool := match v with
  | .int _ => true
  | _ => false
theorem isint_odd (o : Odd H v d) (k : Q (.bl (isI v)) H) : spIsInt K [v] H Q E := by
  cases o with
  | non => exact ⟨_, "NoneType", false, false, rfl, .base .non, by decide +kernel, by decide +kernel, k⟩
  | bl b => exact ⟨_, "bool", true, true, rfl, .base (.bl b), by decide +kernel, by decide +kernel, k⟩
  | int i => exact ⟨_, "int", true, false, rfl, .base (.int i), by decide +kernel, by decide +kernel, k⟩
  | str h => exact ⟨_, "str", false, false, rfl, .base (.str _), by decide +kernel, by decide +kernel, k⟩
  | tup h r => exact ⟨_, "tuple", false, false, rfl, .base (.tup h), by decide +kernel, by decide +kernel, k⟩
  | lst h n r => exact ⟨_, "list", false, false, rfl, .base (.lst h), by decide +kernel, by decide +kernel, k⟩
  | dic h => exact ⟨_, "dict", false, false, rfl, .base (.dK h), by decide +kernel, by decide +kernel, k⟩
theorem fix_odd (o : Odd H v d) (k : ∀ H', Same H H' → Q (.bl (fixB v)) H') : spFix K [v] H Q E := by
  have k0 := k H fun _ _ e => e
  cases o with
  | non => exact ⟨_, rfl, .inr ⟨_, .base .non, kit_ty (by decide +kernel : kitB "NoneType" "str" = some false), k0⟩⟩
  | bl b => exact ⟨_, rfl, .inr ⟨_, .base (.bl b), kit_ty (by decide +kernel : kitB "bool" "str" = some false), k0⟩⟩
  | int i => exact ⟨_, rfl, .inr ⟨_, .base (.int i), kit_ty (by decide +kernel : kitB "int" "str" = some false), k0⟩⟩
  | str h => exact ⟨_, rfl, .inl ⟨_, rfl, by omega, k⟩⟩
  | tup h r => exact ⟨_, rfl, .inr ⟨_, .base (.tup h), kit_ty (by decide +kernel : kitB "tuple" "str" = some false), k0⟩⟩
  | lst h n r => exact ⟨_, rfl, .inr ⟨_, .base (.lst h), kit_ty (by decide +kernel : kitB "list" "str" = some false), k0⟩⟩
  | dic h => exact ⟨_, rfl, .inr ⟨_, .base (.dK h), kit_ty (by decide +kernel : kitB "dict" "str" = some false), k0⟩⟩
end
/-! what comes of a check -/
abbrev Err : Type := Str × Str × V
def Oc (K : PySem.W.Frag) (H : Hp) (o : Option Err) (Q : Hp → Prop) (E : XK) : Prop := match o with
  | none => ∀ H', Same H H' → Q H'
  | some e => ∀ H', Same H H' → Bad1 (ga K e.1) e.2.1 H' E e.2.2
def ckFix (v : V) : Option Err := if fixB v then none else some ("BadFix", "value", v)
def ckLine (lo : Int) (v : V) : Option Err := if inB v lo 6 then none else some ("NoLine", "line", v)
def ckDay (lo : Int) (v : V) : Option Err := if inB v lo 200 then none else some ("NoDay", "day", v)
def ckMate (line : Int) (v : V) : Option Err := if inB v 1 6 then (if intV v = line then some ("NoLine", "line", v) else none) else some ("NoLine", "line", v)
def risen (c f : Str) (hi : Int) : Int → List V → Option Err
  | _, [] => none
  | last, v :: r => if inB v (last + 1) hi then risen c f hi (intV v) r else some (c, f, v)
def ckRise (c f : Str) (hi : Int) (xs : List V) : Option Err := if xs = [] then some ("BadDeed", "at", .non) else risen c f hi 0 xs
def stopB (u : V) (ns : List Int) : Bool := match u with
  | .non => true
  | .int i => decide (i ∈ ns.dropLast)
  | _ => false
def ckStop (c f : Str) (ns : List Int) (u : V) : Option Err := if stopB u ns then none else some (c, f, u)
abbrev Callee (P : Program) (w : World) (K : PySem.W.Frag) (mg : Str → Option Value) (base : Heap) (CX : CXT) (k : Nat) (x : Str) (ps : List Str) (sp : Sp) : Prop :=
  ∃ fd, FnOk P w K mg base CX k (ga K x) fd ps sp ∧ L2.Binds K fd ps [] ∧ PySem.W.keepIn K (.ref (ga K x)) = true ∧ mg x = some (.ref (ga K x))
section
variable {P : Program} {w : World} {K : PySem.W.Frag} {mg : Str → Option Value} {base : Heap}
theorem blt2 (T : KF P w K mg base) : Blt2 mg := ⟨T.fr _ (by decide), T.fr _ (by decide), T.fr _ (by decide), T.fr _ (by decide), T.fr _ (by decide), T.fr _ (by decide)⟩
theorem c_isint (T : KF P w K mg base) : Callee P w K mg base CX0 1 "is_integer" ["value"] (spIsInt K) := by
  obtain ⟨fd, F, g⟩ := T.tops ("is_integer", 4) (by decide)
  exact ⟨fd, ok_isInt F (blt2 T), FunD.bindsN F fun _ _ _ _ _ _ us hl => match us, hl with | [_], _ => rfl, F.kp, g⟩
theorem c_within (T : KF P w K mg base) : Callee P w K mg base CX0 2 "is_within" ["value", "least", "most"] (spWithin K) := by
  obtain ⟨fd, F, g⟩ := T.tops ("is_within", 5) (by decide)
  obtain ⟨fI, FI, gI⟩ := T.tops ("is_integer", 4) (by decide)
  exact ⟨fd, ok_within F (blt2 T) FI gI, FunD.bindsN F fun _ _ _ _ _ _ us hl => match us, hl with | [_, _, _], _ => rfl, F.kp, g⟩
theorem c_fix (T : KF P w K mg base) : Callee P w K mg base CX0 1 "is_fix" ["value"] (spFix K) := by
  obtain ⟨fd, F, g⟩ := T.tops ("is_fix", 6) (by decide)
  exact ⟨fd, ok_fix F (blt2 T), FunD.bindsN F fun _ _ _ _ _ _ us hl => match us, hl with | [_], _ => rfl, F.kp, g⟩
/-! checked_fix -/
def spCk (K : PySem.W.Frag) (ck : V → Option Err) : Sp := fun vs H Q E => ∃ v d, vs = [v] ∧ Odd H v d ∧ Oc K H (ck v) (Q v) E
def spCk2 (K : PySem.W.Frag) (ck : Int → V → Option Err) : Sp := fun vs H Q E => ∃ v d i, vs = [v, .int i] ∧ Odd H v d ∧ Oc K H (ck i v) (Q v) E
theorem scCf : FnScope ["fix"] ["fix"] (defScope (top 19)) := ⟨rfl, rfl, rfl, by decide +kernel, rfl, by decide +kernel, by decide +kernel⟩
theorem c_ckfix (T : KF P w K mg base) : Callee P w K mg base (L2.CX P w) 3 "checked_fix" ["fix"] (spCk K ckFix) := by
  obtain ⟨fd, F, g⟩ := T.tops ("checked_fix", 19) (by decide)
  obtain ⟨fI, GI, bI, kI, gI⟩ := c_fix (w := w) T
  refine ⟨fd, ?_, FunD.bindsN F fun _ _ _ _ _ _ us hl => match us, hl with | [_], _ => rfl, F.kp, g⟩
  refine (F.ok (k := 2) scCf (fun vs H Q E h => ?_) (fun cdv A outer s H vs Q E hr h => ?_))
  · obtain ⟨v, d, rfl, _⟩ := h
    rfl
  · obtain ⟨v, d, rfl, o, c⟩ := h
    refine ⟨_, pss_cons (ps_if (pt_not (pt_val (pe_call (E := E0) GI (hr.mono (by decide)) (by rfl) gI kI bI .nil pass0 (pa_cons (pv 0) pa_nil))))
        (pss_one (ps_raise1 (W := fun cls d x H => E cls d H) T.bf (hr.mono (by decide)) rfl (takes_of rfl rfl rfl rfl) (by rfl) (pv 0))) pss_nil)
      (pss_one (ps_ret (pv 0))), ?_⟩
    refine ⟨_, rfl, ?_⟩
    unfold tNil
    show spFix K [v] H _ _
    refine fix_odd o fun H1 s1 => ⟨_, rfl, ?_⟩
    unfold ckFix at c
    cases e : fixB v with
    | true =>
      rw [e, if_pos rfl] at c
      exact if_negB rfl ⟨_, rfl, c H1 s1⟩
    | false =>
      rw [e, if_neg (by decide)] at c
      exact if_posB rfl ⟨_, rfl, mkb1 (c H1 s1)⟩
/-! checked_line -/
theorem scckl : FnScope ["line", "least"] ["line", "least"] (defScope (top 20)) := ⟨rfl, rfl, rfl, by decide +kernel, rfl, by decide +kernel, by decide +kernel⟩
theorem c_ckl (T : KF P w K mg base) : ∃ fd, FnOk P w K mg base (L2.CX P w) 3 (ga K "checked_line") fd ["line", "least"] (spCk2 K ckLine) ∧ L2.Binds K fd ["line", "least"] [] ∧ (∃ ds, Vals [V.int 1] ds ∧ L2.Binds K fd ["line", "least"] ds) ∧ PySem.W.keepIn K (.ref (ga K "checked_line")) = true ∧ mg "checked_line" = some (.ref (ga K "checked_line")) := by
  obtain ⟨fd, F, g⟩ := T.topd ("checked_line", 20) (by decide)
  obtain ⟨fI, GI, bI, kI, gI⟩ := c_within (w := w) T
  obtain ⟨tL, iL⟩ := T.iL
  refine ⟨fd, ?_, ?_, ?_, F.kp, g⟩
  · refine (F.ok (k := 2) scckl (fun vs H Q E h => ?_) (fun cdv A outer s H vs Q E hr h => ?_))
    · obtain ⟨v, d, i, rfl, _⟩ := h
      rfl
    · obtain ⟨v, d, i, rfl, o, c⟩ := h
      refine ⟨_, pss_cons (ps_if (pt_not (pt_val (pe_call (E := E0) GI (hr.mono (by decide)) (by rfl) gI kI bI .nil pass0 (pa_cons (pv 0) (pa_cons (pv 1) (pa_cons (pe_glob (v := .int 6) (by rfl) iL ⟨_, rfl⟩) pa_nil))))))
          (pss_one (ps_raise1 (W := fun cls d x H => E cls d H) T.nl (hr.mono (by decide)) rfl (takes_of rfl rfl rfl rfl) (by rfl) (pv 0))) pss_nil)
        (pss_one (ps_ret (pv 0))), ?_⟩
      refine ⟨_, rfl, _, rfl, ?_⟩
      unfold tCons tC tNil
      show spWithin K [v, .int i, .int 6] H _ _
      refine within_odd o ⟨_, rfl, ?_⟩
      unfold ckLine at c
      cases e : inB v i 6 with
      | true =>
        rw [e, if_pos rfl] at c
        exact if_negB rfl ⟨_, rfl, c H fun _ _ e => e⟩
      | false =>
        rw [e, if_neg (by decide)] at c
        exact if_posB rfl ⟨_, rfl, mkb1 (c H fun _ _ e => e)⟩
  · obtain ⟨ds, r, b⟩ := FunD.binds1 F (ps := ["line", "least"]) 2 1 (fun z => nomatch z) rfl fun T kV doc pm an cdv ct us its h1 h2 => match us, its, h1, h2 with
      | [_, _], [_], _, _ => ⟨_, rfl, rfl⟩
    cases r
    exact b
  · obtain ⟨ds, r, b⟩ := FunD.binds1 F (ps := ["line", "least"]) 1 0 (fun z => nomatch z) rfl fun T kV doc pm an cdv ct us its h1 h2 => match us, its, h1, h2 with
      | [_], [_], _, _ => ⟨_, rfl, rfl⟩
    exact ⟨ds, r, b⟩
/-! checked_day -/
theorem scckd : FnScope ["day", "least"] ["day", "least"] (defScope (top 22)) := ⟨rfl, rfl, rfl, by decide +kernel, rfl, by decide +kernel, by decide +kernel⟩
theorem c_ckd (T : KF P w K mg base) : ∃ fd, FnOk P w K mg base (L2.CX P w) 3 (ga K "checked_day") fd ["day", "least"] (spCk2 K ckDay) ∧ L2.Binds K fd ["day", "least"] [] ∧ (∃ ds, Vals [V.int 1] ds ∧ L2.Binds K fd ["day", "least"] ds) ∧ PySem.W.keepIn K (.ref (ga K "checked_day")) = true ∧ mg "checked_day" = some (.ref (ga K "checked_day")) := by
  obtain ⟨fd, F, g⟩ := T.topd ("checked_day", 22) (by decide)
  obtain ⟨fI, GI, bI, kI, gI⟩ := c_within (w := w) T
  obtain ⟨tL, iL⟩ := T.iD
  refine ⟨fd, ?_, ?_, ?_, F.kp, g⟩
  · refine (F.ok (k := 2) scckd (fun vs H Q E h => ?_) (fun cdv A outer s H vs Q E hr h => ?_))
    · obtain ⟨v, d, i, rfl, _⟩ := h
      rfl
    · obtain ⟨v, d, i, rfl, o, c⟩ := h
      refine ⟨_, pss_cons (ps_if (pt_not (pt_val (pe_call (E := E0) GI (hr.mono (by decide)) (by rfl) gI kI bI .nil pass0 (pa_cons (pv 0) (pa_cons (pv 1) (pa_cons (pe_glob (v := .int 200) (by rfl) iL ⟨_, rfl⟩) pa_nil))))))
          (pss_one (ps_raise1 (W := fun cls d x H => E cls d H) T.nd (hr.mono (by decide)) rfl (takes_of rfl rfl rfl rfl) (by rfl) (pv 0))) pss_nil)
        (pss_one (ps_ret (pv 0))), ?_⟩
      refine ⟨_, rfl, _, rfl, ?_⟩
      unfold tCons tC tNil
      show spWithin K [v, .int i, .int 200] H _ _
      refine within_odd o ⟨_, rfl, ?_⟩
      unfold ckDay at c
      cases e : inB v i 200 with
      | true =>
        rw [e, if_pos rfl] at c
        exact if_negB rfl ⟨_, rfl, c H fun _ _ e => e⟩
      | false =>
        rw [e, if_neg (by decide)] at c
        exact if_posB rfl ⟨_, rfl, mkb1 (c H fun _ _ e => e)⟩
  · obtain ⟨ds, r, b⟩ := FunD.binds1 F (ps := ["day", "least"]) 2 1 (fun z => nomatch z) rfl fun T kV doc pm an cdv ct us its h1 h2 => match us, its, h1, h2 with
      | [_, _], [_], _, _ => ⟨_, rfl, rfl⟩
    cases r
    exact b
  · obtain ⟨ds, r, b⟩ := FunD.binds1 F (ps := ["day", "least"]) 1 0 (fun z => nomatch z) rfl fun T kV doc pm an cdv ct us its h1 h2 => match us, its, h1, h2 with
      | [_], [_], _, _ => ⟨_, rfl, rfl⟩
    exact ⟨ds, r, b⟩
/-! checked_mate -/
def spMate (K : PySem.W.Frag) : Sp := fun vs H Q E => ∃ v d i, vs = [v, .int i] ∧ Odd H v d ∧ Oc K H (ckMate i v) (Q v) E
theorem scMa : FnScope ["mate", "line"] ["mate", "line"] (defScope (top 21)) := ⟨rfl, rfl, rfl, by decide +kernel, rfl, by decide +kernel, by decide +kernel⟩
theorem in_int {v : V} {lo hi : Int} (h : inB v lo hi = true) : v = .int (intV v) := by
  cases v <;> first | rfl | cases h
theorem c_mate (T : KF P w K mg base) : Callee P w K mg base (L2.CX P w) 4 "checked_mate" ["mate", "line"] (spMate K) := by
  obtain ⟨fd, F, g⟩ := T.tops ("checked_mate", 21) (by decide)
  obtain ⟨fI, GI, _, ⟨ds, rds, bI⟩, kI, gI⟩ := c_ckl (w := w) T
  refine ⟨fd, ?_, FunD.bindsN F fun _ _ _ _ _ _ us hl => match us, hl with | [_, _], _ => rfl, F.kp, g⟩
  refine (F.ok (k := 3) scMa (fun vs H Q E h => ?_) (fun cdv A outer s H vs Q E hr h => ?_))
  · obtain ⟨v, d, i, rfl, _⟩ := h
    rfl
  · obtain ⟨v, d, i, rfl, o, c⟩ := h
    refine ⟨_, pss_cons (ps_if (pt_cmpR op_eq (pe_call (E := E) GI (hr.mono (by decide)) (by rfl) gI kI bI rds (passes_call (takes_of rfl rfl rfl rfl) fun _ _ _ _ h => h) (pa_cons (pv 0) pa_nil)) (pv 1) (nomark _))
        (pss_one (ps_raise1 (W := fun cls d x H => E cls d H) T.nl (hr.mono (by decide)) rfl (takes_of rfl rfl rfl rfl) (by rfl) (pv 0))) pss_nil)
      (pss_one (ps_ret (pv 0))), ?_⟩
    refine ⟨_, rfl, v, d, 1, rfl, o, ?_⟩
    unfold ckMate at c
    unfold ckLine
    cases e : inB v 1 6 with
    | false =>
      rw [e, if_neg (by decide)] at c
      rw [if_neg (by decide)]
      exact c
    | true =>
      rw [e, if_pos rfl] at c
      rw [if_pos rfl]
      intro H1 s1
      have ev := in_int e
      refine ⟨_, rfl, by rw [ev]; rfl, _, rfl, ?_⟩
      have e2 : decide (v = V.int i) = decide (intV v = i) := decide_eq_decide.mpr ⟨fun h => by rw [h]; rfl, fun h => by rw [ev, h]⟩
      rw [e2]
      by_cases h : intV v = i
      · rw [if_pos h] at c
        exact if_posB (decide_eq_true h) ⟨_, rfl, mkb1 (c H1 s1)⟩
      · rw [if_neg h] at c
        exact if_negB (decide_eq_false h) ⟨_, rfl, c H1 s1⟩
end
end K8
set_option Elab.async false
set_option linter.all false
set_option maxRecDepth 100000
set_option maxHeartbeats 1000000
/-! The checks of rows of numbers, and of stops. -/
namespace K8
open PySem PySem.Spec PyProof.Rows L2 RV EV He EF EI LamX
theorem Same.refl' (H : Hp) : Same H H := fun _ _ e => e
def AllOdd (H : Hp) (xs : List V) : Prop := ∀ v ∈ xs, ∃ d, Odd H v d
theorem AllOdd.ext {H H' : Hp} {xs : List V} (a : AllOdd H xs) (s : ExtN H H') : AllOdd H' xs := fun v hv => let ⟨d, o⟩ := a v hv; ⟨d, o.ext s⟩
theorem AllOdd.ins {H H' : Hp} {xs : List V} {p C dx : Addr} {fs : List (Str × V)} (a : AllOdd H xs) (hp : H p = some (.ins C dx fs)) (s : Same2 H H' p) : AllOdd H' xs := fun v hv => let ⟨d, o⟩ := a v hv; ⟨d, o.ins hp s⟩
theorem Oc.two {K : PySem.W.Frag} {H H' : Hp} {o : Option Err} {Q : Hp → Prop} {E : XK} (c : Oc K H o Q E) (s : Same H H') : Oc K H' o Q E := by
  cases o with
  | none => exact fun H2 s2 => c H2 (s.trans s2)
  | some e => exact fun H2 s2 => c H2 (s.trans s2)
theorem risen_ints {c f : Str} {hi : Int} : ∀ {xs : List V} {last : Int}, risen c f hi last xs = none → ∃ ns : List Int, xs = ns.map V.int
  | [], _, _ => ⟨[], rfl⟩
  | v :: r, last, h => by
    unfold risen at h
    cases e : inB v (last + 1) hi with
    | false => rw [e] at h; cases h
    | true =>
      rw [e, if_pos rfl] at h
      obtain ⟨ns, rfl⟩ := risen_ints h
      exact ⟨intV v :: ns, by rw [List.map_cons, ← in_int e]⟩
theorem rise_ints {c f : Str} {hi : Int} {xs : List V} (h : ckRise c f hi xs = none) : ∃ ns : List Int, xs = ns.map V.int ∧ ns ≠ [] := by
  unfold ckRise at h
  by_cases e : xs = []
  · rw [if_pos e] at h; cases h
  · rw [if_neg e] at h
    obtain ⟨ns, rfl⟩ := risen_ints h
    exact ⟨ns, rfl, fun z => e (by rw [z]; rfl)⟩
theorem risen_cons {c f : Str} {hi last : Int} {v : V} {r : List V} : risen c f hi last (v :: r) = if inB v (last + 1) hi then risen c f hi (intV v) r else some (c, f, v) := rfl
theorem risen_nil {c f : Str} {hi last : Int} : risen c f hi last [] = none := rfl
def spRise (K : PySem.W.Frag) (c f : Str) (hi : Int) : Sp := fun vs H Q E => ∃ a xs, vs = [.ref a] ∧ H a = some (.tup xs) ∧ AllOdd H xs ∧ Oc K H (ckRise c f hi xs) (Q (.ref a)) E
section
variable {P : Program} {w : World} {K : PySem.W.Frag} {mg : Str → Option Value} {base : Heap}
theorem sclines : FnScope ["lines", "last", "line"] ["lines"] (defScope (top 23)) := ⟨rfl, rfl, rfl, by decide +kernel, rfl, by decide +kernel, by decide +kernel⟩
theorem c_lines (T : KF P w K mg base) : Callee P w K mg base (L2.CX P w) 4 "checked_lines" ["lines"] (spRise K "NoLine" "line" 6) := by
  obtain ⟨fd, F, g⟩ := T.tops ("checked_lines", 23) (by decide)
  obtain ⟨fI, GI, bI, _, kI, gI⟩ := c_ckl (w := w) T
  refine ⟨fd, ?_, FunD.bindsN F fun _ _ _ _ _ _ us hl => match us, hl with | [_], _ => rfl, F.kp, g⟩
  refine (F.ok (k := 3) sclines (fun vs H Q E h => ?_) (fun cdv A outer s H vs Q E hr h => ?_))
  · obtain ⟨a, xs, rfl, _⟩ := h
    rfl
  · obtain ⟨a, xs, rfl, ha, ho, c⟩ := h
    refine ⟨_, pss_cons (ps_if (pt_not (pt_truth (pv 0) (fun _ => rfl)))
          (pss_one (ps_raise1 (W := fun cls d x H => E cls d H) T.bd (hr.mono (by decide)) rfl (takes_of rfl rfl rfl rfl) (by rfl) pe_non)) pss_nil)
      (pss_cons (ps_set (i := 1) sclines.nd rfl (.inl rfl) pe_int)
      (pss_cons (ps_for (passes_of rfl) rfl (pi_tup (pv 0)) (pg_name (i := 2) sclines.nd rfl (.inl rfl))
        (pss_one (ps_set (i := 1) sclines.nd rfl (.inl rfl) (pe_call (E := E) GI (hr.mono (by decide)) (by rfl) gI kI bI .nil (passes_call (takes_of rfl rfl rfl rfl) fun _ _ _ _ h => h) (pa_cons (pv 2) (pa_cons (pe_op op_add (pv 1) pe_int) pa_nil))))))
      (pss_one (ps_ret (pv 0))))), ?_⟩
    refine ⟨_, rfl, !xs.isEmpty, .inr (.inl ⟨_, SqT.of ha, rfl⟩), ?_⟩
    unfold ckRise at c
    by_cases e : xs = []
    · rw [if_pos e] at c
      rw [e]
      exact if_posB rfl (mkb1 (c H fun _ _ e => e))
    rw [if_neg e] at c
    refine if_negB (by cases xs with | nil => exact absurd rfl e | cons x r => rfl) ?_
    refine ⟨_, rfl, a, rfl, ⟨_, SqT.of ha⟩, for_it (walk_tup (xs := xs)) (fun i σ' H' => ∃ (last : Int) (o : Option V), σ' = [some (.ref a), some (.int last), o] ∧ Same H H' ∧ risen "NoLine" "line" 6 last (xs.drop i) = risen "NoLine" "line" 6 0 xs)
      ⟨0, none, rfl, fun _ _ e => e, rfl⟩ (fun i σ' H' _ ⟨_, _, _, s, _⟩ => SqT.of (s _ _ ha)) ?_ ?_⟩
    · rintro i x σ' H1 H2 hi ⟨last, o, rfl, s1, er⟩ ⟨rfl, hx⟩
      have ed : xs.drop i = x :: xs.drop (i + 1) := by
        obtain ⟨hl, hv⟩ := List.getElem?_eq_some_iff.mp hx
        rw [← hv]
        exact List.drop_eq_getElem_cons hl
      rw [ed, risen_cons] at er
      obtain ⟨d, od⟩ := ho x (List.mem_of_getElem? hx)
      refine ⟨_, rfl, _, rfl, last, 1, rfl, rfl, ?_⟩
      unfold tNil
      show spCk2 K ckLine [x, .int (last + 1)] _ _ _
      refine ⟨x, d, last + 1, rfl, od.same s1, ?_⟩
      unfold ckLine
      cases e2 : inB x (last + 1) 6 with
      | true =>
        rw [e2, if_pos rfl] at er
        rw [if_pos rfl]
        intro H3 s3
        refine ⟨intV x, some x, ?_, s1.trans s3, er⟩
        rw [← in_int e2]
        rfl
      | false =>
        rw [e2, if_neg (by decide)] at er
        rw [if_neg (by decide)]
        intro H3 s3
        rw [← er] at c
        exact c H3 (s1.trans s3)
    · rintro σ' H1 ⟨last, o, rfl, s1, er⟩
      rw [List.drop_of_length_le (Nat.le_refl _), risen_nil] at er
      rw [← er] at c
      exact ⟨_, rfl, c H1 s1⟩
theorem scdays : FnScope ["days", "last", "day"] ["days"] (defScope (top 24)) := ⟨rfl, rfl, rfl, by decide +kernel, rfl, by decide +kernel, by decide +kernel⟩
theorem c_days (T : KF P w K mg base) : Callee P w K mg base (L2.CX P w) 4 "checked_days" ["days"] (spRise K "NoDay" "day" 200) := by
  obtain ⟨fd, F, g⟩ := T.tops ("checked_days", 24) (by decide)
  obtain ⟨fI, GI, bI, _, kI, gI⟩ := c_ckd (w := w) T
  refine ⟨fd, ?_, FunD.bindsN F fun _ _ _ _ _ _ us hl => match us, hl with | [_], _ => rfl, F.kp, g⟩
  refine (F.ok (k := 3) scdays (fun vs H Q E h => ?_) (fun cdv A outer s H vs Q E hr h => ?_))
  · obtain ⟨a, xs, rfl, _⟩ := h
    rfl
  · obtain ⟨a, xs, rfl, ha, ho, c⟩ := h
    refine ⟨_, pss_cons (ps_if (pt_not (pt_truth (pv 0) (fun _ => rfl)))
          (pss_one (ps_raise1 (W := fun cls d x H => E cls d H) T.bd (hr.mono (by decide)) rfl (takes_of rfl rfl rfl rfl) (by rfl) pe_non)) pss_nil)
      (pss_cons (ps_set (i := 1) scdays.nd rfl (.inl rfl) pe_int)
      (pss_cons (ps_for (passes_of rfl) rfl (pi_tup (pv 0)) (pg_name (i := 2) scdays.nd rfl (.inl rfl))
        (pss_one (ps_set (i := 1) scdays.nd rfl (.inl rfl) (pe_call (E := E) GI (hr.mono (by decide)) (by rfl) gI kI bI .nil (passes_call (takes_of rfl rfl rfl rfl) fun _ _ _ _ h => h) (pa_cons (pv 2) (pa_cons (pe_op op_add (pv 1) pe_int) pa_nil))))))
      (pss_one (ps_ret (pv 0))))), ?_⟩
    refine ⟨_, rfl, !xs.isEmpty, .inr (.inl ⟨_, SqT.of ha, rfl⟩), ?_⟩
    unfold ckRise at c
    by_cases e : xs = []
    · rw [if_pos e] at c
      rw [e]
      exact if_posB rfl (mkb1 (c H fun _ _ e => e))
    rw [if_neg e] at c
    refine if_negB (by cases xs with | nil => exact absurd rfl e | cons x r => rfl) ?_
    refine ⟨_, rfl, a, rfl, ⟨_, SqT.of ha⟩, for_it (walk_tup (xs := xs)) (fun i σ' H' => ∃ (last : Int) (o : Option V), σ' = [some (.ref a), some (.int last), o] ∧ Same H H' ∧ risen "NoDay" "day" 200 last (xs.drop i) = risen "NoDay" "day" 200 0 xs)
      ⟨0, none, rfl, fun _ _ e => e, rfl⟩ (fun i σ' H' _ ⟨_, _, _, s, _⟩ => SqT.of (s _ _ ha)) ?_ ?_⟩
    · rintro i x σ' H1 H2 hi ⟨last, o, rfl, s1, er⟩ ⟨rfl, hx⟩
      have ed : xs.drop i = x :: xs.drop (i + 1) := by
        obtain ⟨hl, hv⟩ := List.getElem?_eq_some_iff.mp hx
        rw [← hv]
        exact List.drop_eq_getElem_cons hl
      rw [ed, risen_cons] at er
      obtain ⟨d, od⟩ := ho x (List.mem_of_getElem? hx)
      refine ⟨_, rfl, _, rfl, last, 1, rfl, rfl, ?_⟩
      unfold tNil
      show spCk2 K ckDay [x, .int (last + 1)] _ _ _
      refine ⟨x, d, last + 1, rfl, od.same s1, ?_⟩
      unfold ckDay
      cases e2 : inB x (last + 1) 200 with
      | true =>
        rw [e2, if_pos rfl] at er
        rw [if_pos rfl]
        intro H3 s3
        refine ⟨intV x, some x, ?_, s1.trans s3, er⟩
        rw [← in_int e2]
        rfl
      | false =>
        rw [e2, if_neg (by decide)] at er
        rw [if_neg (by decide)]
        intro H3 s3
        rw [← er] at c
        exact c H3 (s1.trans s3)
    · rintro σ' H1 ⟨last, o, rfl, s1, er⟩
      rw [List.drop_of_length_le (Nat.le_refl _), risen_nil] at er
      rw [← er] at c
      exact ⟨_, rfl, c H1 s1⟩
/-! stops -/
theorem inV_int (i : Int) (ns : List Int) : inV (.int i) (ns.map V.int) = decide (i ∈ ns) := by
  unfold inV
  rw [List.any_map]
  rw [Bool.eq_iff_iff, List.any_eq_true, decide_eq_true_iff]
  constructor
  · rintro ⟨x, hx, h⟩
    have h : decide ((x : Int) = i) = true := h
    rw [← of_decide_eq_true h]
    exact hx
  · intro h
    exact ⟨i, h, decide_eq_true (p := (i : Int) = i) rfl⟩
def spIsStop (K : PySem.W.Frag) : Sp := fun vs H Q _ => ∃ u d a ns, vs = [u, .ref a] ∧ Odd H u d ∧ H a = some (.tup (ns.map V.int)) ∧ ns ≠ [] ∧ ∀ H', Same H H' → Q (.bl (stopB u ns)) H'
theorem scIs : FnScope ["upto", "named"] ["upto", "named"] (defScope (top 25)) := ⟨rfl, rfl, rfl, by decide +kernel, rfl, by decide +kernel, by decide +kernel⟩
theorem cut_last {ns : List Int} (h : ns ≠ []) : cutV (ns.map V.int) none (some (-1)) = ns.dropLast.map V.int ∧ ¬ (HT.sIx (ns.map V.int).length 0 none = 0 ∧ HT.sIx (ns.map V.int).length (ns.map V.int).length (some (-1)) = (ns.map V.int).length) := by
  have hl : 0 < ns.length := List.length_pos_iff.mpr h
  have e : HT.sIx (ns.map V.int).length (ns.map V.int).length (some (-1)) = ns.length - 1 := by
    rw [List.length_map]
    unfold HT.sIx
    simp
    omega
  have e0 : HT.sIx (ns.map V.int).length 0 none = 0 := HT.sIx_none ..
  refine ⟨?_, fun z => ?_⟩
  · unfold cutV
    rw [e, e0, List.drop_zero, Nat.sub_zero, List.dropLast_eq_take, List.map_take]
  · rw [e, List.length_map] at z
    omega
theorem c_isstop (T : KF P w K mg base) : Callee P w K mg base CX0 2 "is_stop" ["upto", "named"] (spIsStop K) := by
  obtain ⟨fd, F, g⟩ := T.tops ("is_stop", 25) (by decide)
  obtain ⟨fI, GI, bI, kI, gI⟩ := c_isint (w := w) T
  refine ⟨fd, ?_, FunD.bindsN F fun _ _ _ _ _ _ us hl => match us, hl with | [_, _], _ => rfl, F.kp, g⟩
  refine (F.ok (k := 1) scIs (fun vs H Q E h => ?_) (fun cdv A outer s H vs Q E hr h => ?_))
  · obtain ⟨u, d, a, ns, rfl, _⟩ := h
    rfl
  · obtain ⟨u, d, a, ns, rfl, o, ha, hne, k⟩ := h
    refine ⟨_, PSs.nox (pss_one (ps_ret (pe_or (pe_cmp (pc_isN (pv 0)) rfl) (pe_one (pe_and (pe_call (E := E0) GI (hr.mono (by decide)) (by rfl) gI kI bI .nil pass0 (pa_cons (pv 0) pa_nil))
      (pe_one (pe_cmpR op_in_seq (pv 0) (pe_slice sl_tup (pv 1) po_none (po_some (pe_un un_neg pe_int))) rfl))))))), ?_⟩
    have t0 := Same.refl' H
    refine ⟨u, rfl, _, rfl, ?_⟩
    cases e : decide (u = V.non) with
    | true =>
      have e := of_decide_eq_true e
      subst e
      exact if_posB rfl (k H t0)
    | false =>
      refine if_negB rfl ⟨u, rfl, ?_⟩
      unfold tNil
      show spIsInt K [u] H _ _
      refine isint_odd o ⟨_, rfl, ?_⟩
      cases e2 : isI u with
      | false =>
        refine if_negB rfl ?_
        have es : stopB u ns = false := by
          cases u <;> first | rfl | exact absurd rfl (of_decide_eq_false e) | cases e2
        rw [es] at k
        exact k H t0
      | true =>
        refine if_posB rfl ?_
        obtain ⟨i, rfl⟩ : ∃ i, u = .int i := by
          cases u <;> first | exact ⟨_, rfl⟩ | cases e2
        obtain ⟨c1, c2⟩ := cut_last hne
        refine ⟨.int i, rfl, .ref a, rfl, 1, rfl, -1, rfl, a, _, rfl, SqT.of ha, c2, fun p np => ⟨p, _, rfl, .inr (SqT.of upd_same), rfl, ?_, ?_⟩⟩
        · show (cutV (ns.map V.int) none (some (-1))).all flatV = true
          rw [c1, List.all_map]
          exact List.all_eq_true.mpr fun _ _ => rfl
        · show Q (.bl (inV (.int i) (cutV (ns.map V.int) none (some (-1))))) _
          rw [c1, inV_int]
          exact k _ (same_new np)
def spStop (K : PySem.W.Frag) (c f : Str) : Sp := fun vs H Q E => ∃ u d a ns, vs = [u, .ref a] ∧ Odd H u d ∧ H a = some (.tup (ns.map V.int)) ∧ ns ≠ [] ∧ Oc K H (ckStop c f ns u) (Q u) E
theorem sclstop : FnScope ["upto", "lines"] ["upto", "lines"] (defScope (top 26)) := ⟨rfl, rfl, rfl, by decide +kernel, rfl, by decide +kernel, by decide +kernel⟩
theorem c_lstop (T : KF P w K mg base) : Callee P w K mg base (L2.CX P w) 3 "line_stop" ["upto", "lines"] (spStop K "NoLine" "line") := by
  obtain ⟨fd, F, g⟩ := T.tops ("line_stop", 26) (by decide)
  obtain ⟨fI, GI, bI, kI, gI⟩ := c_isstop (w := w) T
  refine ⟨fd, ?_, FunD.bindsN F fun _ _ _ _ _ _ us hl => match us, hl with | [_, _], _ => rfl, F.kp, g⟩
  refine (F.ok (k := 2) sclstop (fun vs H Q E h => ?_) (fun cdv A outer s H vs Q E hr h => ?_))
  · obtain ⟨u, d, a, ns, rfl, _⟩ := h
    rfl
  · obtain ⟨u, d, a, ns, rfl, o, ha, hne, c⟩ := h
    refine ⟨_, pss_cons (ps_if (pt_not (pt_val (pe_call (E := E0) GI (hr.mono (by decide)) (by rfl) gI kI bI .nil pass0 (pa_cons (pv 0) (pa_cons (pv 1) pa_nil)))))
        (pss_one (ps_raise1 (W := fun cls d x H => E cls d H) T.nl (hr.mono (by decide)) rfl (takes_of rfl rfl rfl rfl) (by rfl) (pv 0))) pss_nil)
      (pss_one (ps_ret (pv 0))), ?_⟩
    refine ⟨_, rfl, _, rfl, ?_⟩
    unfold tNil
    show spIsStop K [u, .ref a] H _ _
    refine ⟨u, d, a, ns, rfl, o, ha, hne, fun H1 s1 => ⟨_, rfl, ?_⟩⟩
    unfold ckStop at c
    cases e : stopB u ns with
    | true =>
      rw [e, if_pos rfl] at c
      exact if_negB rfl ⟨_, rfl, c H1 s1⟩
    | false =>
      rw [e, if_neg (by decide)] at c
      exact if_posB rfl ⟨_, rfl, mkb1 (c H1 s1)⟩
theorem scdstop : FnScope ["upto", "days"] ["upto", "days"] (defScope (top 27)) := ⟨rfl, rfl, rfl, by decide +kernel, rfl, by decide +kernel, by decide +kernel⟩
theorem c_dstop (T : KF P w K mg base) : Callee P w K mg base (L2.CX P w) 3 "day_stop" ["upto", "days"] (spStop K "NoDay" "day") := by
  obtain ⟨fd, F, g⟩ := T.tops ("day_stop", 27) (by decide)
  obtain ⟨fI, GI, bI, kI, gI⟩ := c_isstop (w := w) T
  refine ⟨fd, ?_, FunD.bindsN F fun _ _ _ _ _ _ us hl => match us, hl with | [_, _], _ => rfl, F.kp, g⟩
  refine (F.ok (k := 2) scdstop (fun vs H Q E h => ?_) (fun cdv A outer s H vs Q E hr h => ?_))
  · obtain ⟨u, d, a, ns, rfl, _⟩ := h
    rfl
  · obtain ⟨u, d, a, ns, rfl, o, ha, hne, c⟩ := h
    refine ⟨_, pss_cons (ps_if (pt_not (pt_val (pe_call (E := E0) GI (hr.mono (by decide)) (by rfl) gI kI bI .nil pass0 (pa_cons (pv 0) (pa_cons (pv 1) pa_nil)))))
        (pss_one (ps_raise1 (W := fun cls d x H => E cls d H) T.nd (hr.mono (by decide)) rfl (takes_of rfl rfl rfl rfl) (by rfl) (pv 0))) pss_nil)
      (pss_one (ps_ret (pv 0))), ?_⟩
    refine ⟨_, rfl, _, rfl, ?_⟩
    unfold tNil
    show spIsStop K [u, .ref a] H _ _
    refine ⟨u, d, a, ns, rfl, o, ha, hne, fun H1 s1 => ⟨_, rfl, ?_⟩⟩
    unfold ckStop at c
    cases e : stopB u ns with
    | true =>
      rw [e, if_pos rfl] at c
      exact if_negB rfl ⟨_, rfl, c H1 s1⟩
    | false =>
      rw [e, if_neg (by decide)] at c
      exact if_posB rfl ⟨_, rfl, mkb1 (c H1 s1)⟩
end
end K8
set_option Elab.async false
set_option linter.all false
set_option maxRecDepth 100000
set_option maxHeartbeats 1000000
/-! Operators of an own class: x < y, x != y, x | y, y in x, x[i], str(x). -/
namespace Oo
open PySem PySem.Spec PyProof.Rows L2
section
variable {X : Cx} {CX : CXT} {k : Nat} {C f : Addr} {sp : Sp} {E : XK} {pins : List (Addr × Obj)} {σ : L2.St} {H : Hp} {s : Shared}
theorem looks_ty {x : V} {u t : Value} (I : Inv X pins σ H s) (rx : RelV x u) (ty : TyX X.K H x t) : PySem.W.Looks (model X.prog X.w) s.heap (typeOf u) t := by
  obtain ⟨P, Z, p, _⟩ := kit_of I rx ty
  exact Z.ty _ _ I.kIn p
/-- no value of ours is NotImplemented -/
theorem back_of {v : V} {u : Value} {s' : Shared} {Q : Value → Shared → Prop} (r : RelV v u) (h : Q u s') : PySem.W.CmpBack Q u s' := by
  cases v with
  | non => obtain rfl : u = .none := r; exact h
  | bl b => obtain rfl : u = .bool b := r; exact h
  | int i => obtain ⟨t, rfl⟩ := r; exact h
  | str x => obtain ⟨t, rfl⟩ := r; exact h
  | byt x => obtain ⟨t, rfl⟩ := r; exact h
  | flt x => obtain ⟨t, rfl⟩ := r; exact h
  | ref a => obtain rfl : u = .ref a := r; exact h
  | ty n => obtain rfl : u = .type n := r; exact h
/-- an own method of two places: x of the class at C, y of a kind that ok lets -/
def rOwn2 (K : PySem.W.Frag) (C : Addr) (ok : Value → Prop) (sp : Sp) (E : XK) : R2 := fun x y H Q => ∃ a dx fs t, x = .ref a ∧ H a = some (.ins C dx fs) ∧ TyX K H y t ∧ ok t ∧ sp [.ref a, y] H Q E
/-- x < y and the like -/
theorem op_cmpO {op : CmpOp} (hop : ∀ a b, compareOp op a b = richCompare op a b) (hm : Meth X.K C (cmpInfo op).2.1 f) (F : FnR X.prog X.w X.K X.mg X.base CX k f sp) (hr : Room k X.A) (hx : Passes CX X E) :
    OpR X (compareOp op) (rOwn2 X.K C (fun t => PySem.W.notFirst X.K C t = true) sp E) := by
  intro pins s σ H x y v u Q I rx ry h
  obtain ⟨a, dx, fs, t, rfl, ea, ty, hn, q⟩ := h
  obtain rfl : v = Value.ref a := rx
  rw [hop]
  obtain ⟨mA, O, _⟩ := ins_get I.hok ea
  obtain ⟨od, J, _⟩ := O.look
  obtain ⟨m, hF⟩ := I.fr
  refine PySem.W.cmp_K hr.units0 hF I.ok.mod.kin J (looks_ty I ry ty) hn hm.at_ hm.fn (thn (wpAny_call (run_fnR (us := [.ref a, u]) (vs := [.ref a, y]) F hr hx I (.cons rfl (.cons ry .nil)) q)) fun z s' hz => ?_)
  obtain ⟨w, H', I', rw', q'⟩ := hz
  exact back_of rw' ⟨w, H', I', rw', q'⟩
/-- x | y and the like, y of the same class -/
theorem op_binO {op : Operator} (hm : Meth X.K C (PySem.dunder op.info.2) f) (hs : PySem.W.selfFirst X.K C = true) (F : FnR X.prog X.w X.K X.mg X.base CX k f sp) (hr : Room k X.A) (hx : Passes CX X E) :
    OpR X (binaryOp op) (rOwn2 X.K C (fun t => t = .ref C) sp E) := by
  intro pins s σ H x y v u Q I rx ry h
  obtain ⟨a, dx, fs, t, rfl, ea, ty, rfl, q⟩ := h
  obtain rfl : v = Value.ref a := rx
  obtain ⟨mA, O, _⟩ := ins_get I.hok ea
  obtain ⟨od, J, _⟩ := O.look
  obtain ⟨m, hF⟩ := I.fr
  refine PySem.W.binop_K hF I.ok.mod.kin J (looks_ty I ry ty) hs hm.at_ hm.fn (thn (wpAny_call (run_fnR (us := [.ref a, u]) (vs := [.ref a, y]) F hr hx I (.cons rfl (.cons ry .nil)) q)) fun z s' hz => ?_)
  obtain ⟨w, H', I', rw', q'⟩ := hz
  exact back_of rw' ⟨w, H', I', rw', q'⟩
/-- y in x, by __contains__ that gives a Bool -/
def rInO (C : Addr) (g : Bool → Bool) (sp : Sp) (E : XK) : R2 := fun y x H Q => ∃ a dx fs, x = .ref a ∧ H a = some (.ins C dx fs) ∧ sp [.ref a, y] H (fun v H' => ∃ b, v = .bl b ∧ Q (.bl (g b)) H') E
theorem contO (hm : Meth X.K C "__contains__" f) (F : FnR X.prog X.w X.K X.mg X.base CX k f sp) (hr : Room k X.A) (hx : Passes CX X E) {a dx : Addr} {fs : List (Str × V)} {y : V} {u : Value} {g : Bool → Bool} {Q : VK} (I : Inv X pins σ H s) (ry : RelV y u) (ea : H a = some (.ins C dx fs))
    (q : sp [.ref a, y] H (fun v H' => ∃ b, v = .bl b ∧ Q (.bl (g b)) H') E) : wpAny (model X.prog X.w) X.A (call (.ref f) [.ref a, u]) (fun r s' => wpAny (model X.prog X.w) X.A (truthy r) (fun b s'' => EP X pins σ Q (.bool (g b)) s'') X.xe s') X.xe s := by
  refine thn (wpAny_call (run_fnR (us := [.ref a, u]) (vs := [.ref a, y]) F hr hx I (.cons rfl (.cons ry .nil)) q)) fun z s' hz => ?_
  obtain ⟨w, H', I', rw', b, rfl, q'⟩ := hz
  obtain rfl : z = Value.bool b := rw'
  exact wpAny_truthy_bool ⟨.bl (g b), H', I', rfl, q'⟩
theorem op_inO (hm : Meth X.K C "__contains__" f) (F : FnR X.prog X.w X.K X.mg X.base CX k f sp) (hr : Room k X.A) (hx : Passes CX X E) : OpR X (compareOp .In) (rInO C (fun b => b) sp E) := by
  intro pins s σ H y x u v Q I ry rx h
  obtain ⟨a, dx, fs, rfl, ea, q⟩ := h
  obtain rfl : v = Value.ref a := rx
  obtain ⟨mA, O, _⟩ := ins_get I.hok ea
  obtain ⟨od, J, _⟩ := O.look
  obtain ⟨m, hF⟩ := I.fr
  exact PySem.W.in_K hF I.ok.mod.kin J hm.at_ hm.fn (contO (g := fun b => b) hm F hr hx I ry ea q)
/-- str(x) by an own __str__ -/
def rStrO (C : Addr) (sp : Sp) (E : XK) : List V → Hp → VK → Prop := fun xs H Q => ∃ a dx fs, xs = [.ref a] ∧ H a = some (.ins C dx fs) ∧ sp [.ref a] H (fun v H' => ∃ z, v = .str z ∧ Q (.str z) H') E
theorem call_strO (hm : Meth X.K C "__str__" f) {fd : FuncData} {ps : List Str} (F : FnOk X.prog X.w X.K X.mg X.base CX k f fd ps sp) (hr : Room (k + 2) X.A) (hb : Binds X.K fd ps []) (hx : Passes CX X E) : CallR X (.type "str") (rStrO C sp E) := by
  intro pins s σ H xs us Q I r h
  obtain ⟨a, dx, fs, rfl, ea, q⟩ := h
  obtain ⟨u, rfl, ru⟩ := vals1 r
  obtain rfl : u = Value.ref a := ru
  obtain ⟨mA, O, _⟩ := ins_get I.hok ea
  obtain ⟨od, J, _⟩ := O.look
  have hl := F.len _ _ _ _ q
  refine PySem.W.kso_call hr.in1.in1.units0 I.kIn J hm.at_ hm.fn (wpAny_call (codeAny_mono (F.run X.A.in1.in1 X.stack s H ⟨[.ref a], []⟩ [.ref a] [.ref a] _ E hr.in1.in1 I.env0.in1.in1 (by
    have := hb s [.ref a] I.kIn (by simpa using hl)
    simpa using this) (.cons rfl .nil) q) fun rs s' hq => ?_))
  cases rs with
  | error e => exact hx pins σ H s e s' I hq
  | ok fl =>
    cases fl with
    | ret z =>
      obtain ⟨v, H', I', rv, y, rfl, q'⟩ := I.after hq
      obtain ⟨t, rfl⟩ := rv
      exact ⟨.str y, H', I', ⟨t, rfl⟩, q'⟩
    | next => exact False.elim hq
    | brk => exact False.elim hq
    | cont => exact False.elim hq
end
end Oo
set_option Elab.async false
set_option linter.all false
set_option maxRecDepth 100000
set_option maxHeartbeats 1000000
namespace Oo
open PySem PySem.Spec PyProof.Rows L2 PySem.W
section
variable {prog : Program} {w : World} {A : Around} {E : Value → Shared → Prop} {s : Shared} {K : Frag} {x C L f : Addr} {h₀ : Heap} {m : Str → Option Value} {ox : Obj} {od : Option Obj}
/-- what the operator's two names are at a built-in kind -/
structure KindOp (nm : String) (T : String) : Prop where
  fills : ∃ r, fillsNumberSlot (.type T) nm = pure r
  back : ∃ o, typeLookup (.type T) (dunderR nm) = pure o
theorem binary1_T {nm : String} {T : String} {b : Value} {Q : Value → Shared → Prop} (X : K.In s.heap) (I : InstAt s.heap x ox C od) (hb : Looks (model prog w) s.heap (typeOf b) (.type T)) (hc : selfFirst K C = true)
    (hs : findIn K (.ref C) (PySem.dunder nm) = some (some (.ref f))) (hn : findIn K (.ref C) (dunderR nm) = some none) (hsub : subIn K (.type T) (.ref C) = some false) (hf : isFn K (.ref f) = true) (ko : KindOp nm T)
    (h : wpAny (model prog w) A (call (.ref f) [.ref x, b]) (W.CmpBack Q) E s) : wpAny (model prog w) A (binaryOp1 nm (.ref x) b) (fun z s' => ∃ v, z = some v ∧ Q v s') E s := by
  obtain ⟨cd, hcd, hm⟩ := any_some hc
  have hm2 : ∃ l, cd.mro = .ref C :: l := by
    rcases e : cd.mro with _ | ⟨c0, l⟩
    · rw [e] at hm; exact nomatch hm
    · rw [e, List.head?_cons] at hm
      exact ⟨l, by rw [Option.some.inj (beq_iff_eq.mp hm)]⟩
  obtain ⟨l, hm2⟩ := hm2
  obtain ⟨r, hr⟩ := ko.fills
  obtain ⟨o, ho⟩ := ko.back
  have one : wpAny (model prog w) A (tryMethod (.ref x) (PySem.dunder nm) b) (fun z s' => ∃ v, z = some v ∧ Q v s') E s := by
    unfold tryMethod
    refine wpAny_bind (special_fn X I hs (beq_iff_eq.mp hf) (wpAny_mono h (fun v s' hv => ?_) fun _ _ e => e))
    cases v <;> first | exact hv.elim | exact wpAny_pure ⟨_, rfl, hv⟩
  unfold binaryOp1
  refine wpAny_bind (I.type.here (wpAny_bind (hb.here (wpAny_bind ((fills_K X hcd hm2 hs).here ?_)))))
  have e0 : ((Value.ref C) == (Value.type T)) = false := rfl
  simp only [e0, if_false, Bool.false_eq_true]
  rw [hr]
  refine wpAny_bind (wpAny_pure ?_)
  cases r with
  | false =>
    simp only [Bool.and_false, Bool.false_eq_true, if_false, Bool.false_and]
    refine wpAny_bind (wpAny_pure ?_)
    simp only [Bool.false_eq_true, if_false, if_true]
    refine wpAny_bind (wpAny_mono one (fun z s' hz => ?_) fun _ _ e => e)
    obtain ⟨v, rfl, q⟩ := hz
    exact wpAny_pure ⟨v, rfl, q⟩
  | true =>
    have num : Looks (model prog w) s.heap (numberSlotInPython (.ref C) nm) true := by
      intro A Q E s' k q
      have X' : K.In s'.heap := X.keeps k
      unfold numberSlotInPython
      refine wpAny_bind ((looks_findIn X hs) A _ E s' k ?_)
      refine wpAny_bind (m := calledByName (.ref C) (PySem.dunder nm) (some (.ref f))) (wpAny_pure ?_)
      refine wpAny_bind ((looks_findIn X hn) A _ E s' k ?_)
      refine wpAny_bind (m := calledByName (.ref C) (dunderR nm) none) (wpAny_pure ?_)
      exact wpAny_pure q
    simp only [Bool.and_true, if_true]
    refine wpAny_bind ((looks_subIn X hsub).here ?_)
    simp only [Bool.false_eq_true, if_false, Bool.not_false, if_true]
    refine wpAny_bind (num.here ?_)
    simp only [if_true]
    refine wpAny_bind (m := numberSlotInPython (.type T) nm) (wpAny_pure ?_)
    simp only [Bool.not_false, if_true]
    rw [ho]
    refine wpAny_bind (wpAny_pure ?_)
    refine wpAny_bind (wpAny_mono one (fun z s' hz => ?_) fun _ _ e => e)
    obtain ⟨v, rfl, q⟩ := hz
    exact wpAny_pure ⟨v, rfl, q⟩
theorem binop_T {op : Operator} {T : String} {b : Value} {Q : Value → Shared → Prop} (X : K.In s.heap) (I : InstAt s.heap x ox C od) (hb : Looks (model prog w) s.heap (typeOf b) (.type T)) (hc : selfFirst K C = true)
    (hs : findIn K (.ref C) (PySem.dunder op.info.2) = some (some (.ref f))) (hn : findIn K (.ref C) (dunderR op.info.2) = some none) (hsub : subIn K (.type T) (.ref C) = some false) (hf : isFn K (.ref f) = true) (ko : KindOp op.info.2 T)
    (h : wpAny (model prog w) A (call (.ref f) [.ref x, b]) (W.CmpBack Q) E s) : wpAny (model prog w) A (binaryOp op (.ref x) b) Q E s := by
  unfold binaryOp
  refine wpAny_holding (wpAny_bind (m := binaryOp1 op.info.2 (.ref x) b) (wpAny_mono (binary1_T X I hb hc hs hn hsub hf ko h) (fun z s' hz => ?_) fun _ _ e => e))
  obtain ⟨v, rfl, q⟩ := hz
  exact wpAny_pure q
theorem binary1_S {nm : String} {b : Value} {Q : Value → Shared → Prop} (X : K.In s.heap) (I : InstAt s.heap x ox C od) (hb : Looks (model prog w) s.heap (typeOf b) (.ref C)) (hc : selfFirst K C = true)
    (hs : findIn K (.ref C) (PySem.dunder nm) = some (some (.ref f))) (hf : isFn K (.ref f) = true)
    (h : wpAny (model prog w) A (call (.ref f) [.ref x, b]) (W.CmpBack Q) E s) : wpAny (model prog w) A (binaryOp1 nm (.ref x) b) (fun z s' => ∃ v, z = some v ∧ Q v s') E s := by
  obtain ⟨cd, hcd, hm⟩ := any_some hc
  have hm2 : ∃ l, cd.mro = .ref C :: l := by
    rcases e : cd.mro with _ | ⟨c0, l⟩
    · rw [e] at hm; exact nomatch hm
    · rw [e, List.head?_cons] at hm
      exact ⟨l, by rw [Option.some.inj (beq_iff_eq.mp hm)]⟩
  obtain ⟨l, hm2⟩ := hm2
  have one : wpAny (model prog w) A (tryMethod (.ref x) (PySem.dunder nm) b) (fun z s' => ∃ v, z = some v ∧ Q v s') E s := by
    unfold tryMethod
    refine wpAny_bind (special_fn X I hs (beq_iff_eq.mp hf) (wpAny_mono h (fun v s' hv => ?_) fun _ _ e => e))
    cases v <;> first | exact hv.elim | exact wpAny_pure ⟨_, rfl, hv⟩
  unfold binaryOp1
  refine wpAny_bind (I.type.here (wpAny_bind (hb.here (wpAny_bind ((fills_K X hcd hm2 hs).here ?_)))))
  simp only [beq_self_eq_true, if_true]
  refine wpAny_bind (wpAny_pure ?_)
  simp only [Bool.and_false, Bool.false_eq_true, if_false, Bool.false_and]
  refine wpAny_bind (wpAny_pure ?_)
  simp only [Bool.false_eq_true, if_false, if_true]
  refine wpAny_bind (wpAny_mono one (fun z s' hz => ?_) fun _ _ e => e)
  obtain ⟨v, rfl, q⟩ := hz
  exact wpAny_pure ⟨v, rfl, q⟩
/-- x |= y where the class has no own in-place form -/
theorem inplace_S {op : Operator} {b : Value} {Q : Value → Shared → Prop} (X : K.In s.heap) (I : InstAt s.heap x ox C od) (hb : Looks (model prog w) s.heap (typeOf b) (.ref C)) (hc : selfFirst K C = true)
    (hs : findIn K (.ref C) (PySem.dunder op.info.2) = some (some (.ref f))) (hi : Looks (model prog w) s.heap (fillsInplaceSlot (.ref C) op.info.2 (op == .Add)) false) (hf : isFn K (.ref f) = true)
    (h : wpAny (model prog w) A (call (.ref f) [.ref x, b]) (W.CmpBack Q) E s) : wpAny (model prog w) A (inplaceOp op (.ref x) b) Q E s := by
  unfold inplaceOp
  refine wpAny_holding (wpAny_bind (I.type.here (wpAny_bind (hi.here ?_))))
  simp only [Bool.false_eq_true, if_false]
  refine wpAny_bind (m := binaryOp1 op.info.2 (.ref x) b) (wpAny_mono (binary1_S X I hb hc hs hf h) (fun z s' hz => ?_) fun _ _ e => e)
  obtain ⟨v, rfl, q⟩ := hz
  exact wpAny_pure q
end
end Oo
set_option Elab.async false
set_option linter.all false
set_option maxRecDepth 100000
set_option maxHeartbeats 1000000
namespace Oo
open PySem PySem.Spec PyProof.Rows L2 PySem.W
def kindsT : List String := ["NoneType", "bool", "int", "str", "tuple", "list", "dict"]
def opsN : List String := ["or", "and", "sub", "xor"]
theorem look_some {T : String} {n : Str} (h : (builtinLookup T n).isSome = true) : ∃ o, typeLookup (.type T) n = pure o := by
  rw [typeLookup_type]
  cases e : builtinLookup T n with
  | none => rw [e] at h; exact nomatch h
  | some r => exact ⟨r, rfl⟩
theorem looks_all : (kindsT.all fun t => opsN.all fun n => (builtinLookup t (PySem.dunder n)).isSome && (builtinLookup t (dunderR n)).isSome) = true := by decide +kernel
theorem kindOp {T nm : String} (hT : T ∈ kindsT) (hn : nm ∈ opsN) : KindOp nm T := by
  have h := List.all_eq_true.mp (List.all_eq_true.mp looks_all T hT) nm hn
  obtain ⟨h1, h2⟩ := Bool.and_eq_true_iff.mp h
  obtain ⟨f, hf⟩ := look_some h1
  obtain ⟨r, hr⟩ := look_some h2
  refine ⟨⟨(f.isSome && !isSeqSlot f) || (r.isSome && !isSeqSlot r), ?_⟩, r, hr⟩
  simp only [fillsNumberSlot, hf, hr, pure_bind]
section
variable {M : Model} {h : Heap} {K : Frag} {C : Addr}
theorem noInplace {nm : String} {b : Bool} (X : K.In h) (hmro : ((clsIn K C).any fun cd => decide (cd.mro = [.ref C, .type "object"])) = true) (hn : findIn K (.ref C) (dunderI nm) = some none) (ho : typeLookup (.type "object") (dunderI nm) = pure none) :
    Looks M h (fillsInplaceSlot (.ref C) nm b) false := by
  intro A Q E s k q
  obtain ⟨cd, hc, hm⟩ := any_some hmro
  have hm := of_decide_eq_true hm
  unfold fillsInplaceSlot
  refine wpAny_bind ((looks_clsIn X hc).andThen (f := fun cd => pure cd.mro) .now A _ E s k ?_)
  rw [hm, List.anyM_cons]
  refine wpAny_bind (wpAny_bind ((looks_findIn X hn) A _ E s k ?_))
  refine wpAny_pure ?_
  simp only [Bool.false_eq_true, if_false]
  rw [List.anyM_cons]
  refine wpAny_bind ?_
  rw [ho]
  refine wpAny_bind (wpAny_pure (wpAny_pure ?_))
  simp only [Bool.false_eq_true, if_false, List.anyM_nil]
  exact wpAny_pure q
end
section
variable {X : Cx} {CX : CXT} {k : Nat} {C f : Addr} {sp : Sp} {E : XK}
/-- what the class must say for x op y, y of a built-in kind or of the class itself -/
structure OpC (K : Frag) (C f : Addr) (nm : String) : Prop where
  mt : Meth K C (PySem.dunder nm) f
  sf : selfFirst K C = true
  mro : ((clsIn K C).any fun cd => decide (cd.mro = [.ref C, .type "object"])) = true
  nr : findIn K (.ref C) (dunderR nm) = some none
  ni : findIn K (.ref C) (dunderI nm) = some none
  sub : ∀ T ∈ kindsT, subIn K (.type T) (.ref C) = some false
def okBin (C : Addr) (t : Value) : Prop := t = .ref C ∨ ∃ T ∈ kindsT, t = .type T
/-- x | y -/
theorem op_bin {op : Operator} (c : OpC X.K C f op.info.2) (hn : op.info.2 ∈ opsN) (F : FnR X.prog X.w X.K X.mg X.base CX k f sp) (hr : Room k X.A) (hx : Passes CX X E) : OpR X (binaryOp op) (rOwn2 X.K C (okBin C) sp E) := by
  intro pins s σ H x y v u Q I rx ry h
  obtain ⟨a, dx, fs, t, rfl, ea, ty, ok, q⟩ := h
  rcases ok with rfl | ⟨T, hT, rfl⟩
  · exact op_binO c.mt c.sf F hr hx pins s σ H _ y v u Q I rx ry ⟨a, dx, fs, _, rfl, ea, ty, rfl, q⟩
  · obtain rfl : v = Value.ref a := rx
    obtain ⟨mA, O, _⟩ := ins_get I.hok ea
    obtain ⟨od, J, _⟩ := O.look
    refine binop_T I.kIn J (looks_ty I ry ty) c.sf c.mt.at_ c.nr (c.sub T hT) c.mt.fn (kindOp hT hn) (thn (wpAny_call (run_fnR (us := [.ref a, u]) (vs := [.ref a, y]) F hr hx I (.cons rfl (.cons ry .nil)) q)) fun z s' hz => ?_)
    obtain ⟨w, H', I', rw', q'⟩ := hz
    exact back_of rw' ⟨w, H', I', rw', q'⟩
/-- x |= y, y of the class -/
theorem op_inp {op : Operator} (c : OpC X.K C f op.info.2) (ho : typeLookup (.type "object") (dunderI op.info.2) = pure none) (F : FnR X.prog X.w X.K X.mg X.base CX k f sp) (hr : Room k X.A) (hx : Passes CX X E) : OpR X (inplaceOp op) (rOwn2 X.K C (fun t => t = .ref C) sp E) := by
  intro pins s σ H x y v u Q I rx ry h
  obtain ⟨a, dx, fs, t, rfl, ea, ty, rfl, q⟩ := h
  obtain rfl : v = Value.ref a := rx
  obtain ⟨mA, O, _⟩ := ins_get I.hok ea
  obtain ⟨od, J, _⟩ := O.look
  refine inplace_S I.kIn J (looks_ty I ry ty) c.sf c.mt.at_ (noInplace I.kIn c.mro c.ni ho) c.mt.fn (thn (wpAny_call (run_fnR (us := [.ref a, u]) (vs := [.ref a, y]) F hr hx I (.cons rfl (.cons ry .nil)) q)) fun z s' hz => ?_)
  obtain ⟨w, H', I', rw', q'⟩ := hz
  exact back_of rw' ⟨w, H', I', rw', q'⟩
theorem no_inp {nm : String} (h : nm ∈ opsN) : typeLookup (.type "object") (dunderI nm) = pure none := by
  have z : (opsN.all fun n => builtinLookup "object" (dunderI n) == some none) = true := by decide +kernel
  have := beq_iff_eq.mp (List.all_eq_true.mp z nm h)
  rw [typeLookup_type, this]
end
end Oo
set_option Elab.async false
set_option linter.all false
set_option maxRecDepth 100000
set_option maxHeartbeats 1000000
namespace Oo
open PySem PySem.Spec PyProof.Rows L2 PySem.W
section
variable {prog : Program} {w : World} {A : Around} {E : Value → Shared → Prop} {s : Shared} {K : Frag} {x C L f : Addr} {h₀ : Heap} {m : Str → Option Value} {ox : Obj} {od : Option Obj} {b tb : Value}
open Builtin in
theorem obj_ne {Q : Value → Shared → Prop} (hu : A.in1.units < cLine) (X : K.In s.heap) (I : InstAt s.heap x ox C od) (hm : mroIn K C (.type "object") = some true) (he : findIn K (.ref C) "__eq__" = some (some (.ref f))) (hf : isFn K (.ref f) = true)
    (h : wpAny (model prog w) A.in1 (call (.ref f) [.ref x, b]) (fun v s' => ∃ r, v = .bool r ∧ Q (.bool (!r)) s') E s) : wpAny (model prog w) A (call (.builtin "object.__ne__") [.ref x, b]) Q E s := by
  refine wpAny_call (codeAny_call_builtin PySem.F.cmp_object.ne.plain PySem.F.cmpEntry_ne (check_slot (i := "object.__ne__") (owner := "object") (n := "__ne__") PySem.F.cmpKind_ne PySem.F.cmpSplit_ne (I.type.andThen (looks_mroIn X hm)) (PySem.F.cmpArgs_ne _ _) ?_))
  unfold Builtin.«object.__ne__»
  refine wpAny_bind (m := slotArgs "__ne__" 1 _) (wpAny_pure ?_)
  refine wpAny_bind (m := cRoomFor _ _) (wpAny_cRoomFor hu ?_)
  refine wpAny_bind (m := callSpecialIfBound? (.ref x) (Str.ofString "__eq__") _) (ifBound_K X I he hf (wpAny_mono h (fun r s' hq => ?_) fun _ _ y => y))
  obtain ⟨b1, rfl, q⟩ := hq
  exact wpAny_bind (wpAny_truthy_bool (wpAny_pure q))
theorem ne_K {Q : Value → Shared → Prop} (hu : A.units < cLine) (hu1 : A.in1.units < cLine) (X : K.In s.heap) (I : InstAt s.heap x ox C od) (hb : Looks (model prog w) s.heap (typeOf b) tb) (hn : notFirst K C tb = true)
    (hs : findIn K (.ref C) "__ne__" = some (some (.builtin "object.__ne__"))) (hm : mroIn K C (.type "object") = some true) (he : findIn K (.ref C) "__eq__" = some (some (.ref f))) (hf : isFn K (.ref f) = true)
    (h : wpAny (model prog w) A.in1 (call (.ref f) [.ref x, b]) (fun v s' => ∃ r, v = .bool r ∧ Q (.bool (!r)) s') E s) : wpAny (model prog w) A (richCompare .NotEq (.ref x) b) Q E s := by
  have one : wpAny (model prog w) A (tryCompare (.ref x) "__ne__" b) (fun z s' => ∃ r, z = some (.bool (!r)) ∧ Q (.bool (!r)) s') E s := by
    unfold tryCompare
    simp only [callSpecialIfBound?, bindSpecialIfBound?]
    have body : wpAny (model prog w) A (call (.builtin "object.__ne__") [.ref x, b]) (fun v s' => ∃ r, v = .bool (!r) ∧ Q (.bool (!r)) s') E s :=
      obj_ne hu1 X I hm he hf (wpAny_mono h (fun v s' ⟨r, e, q⟩ => ⟨r, e, r, rfl, q⟩) fun _ _ e => e)
    refine wpAny_bind (wpAny_holding (wpAny_bind (wpAny_bind (wpAny_bind (I.type.here ((looks_findIn X hs).here ?_))))))
    refine wpAny_bind (wpAny_askSetting (wpAny_ite ?_))
    have fin : wpAny (model prog w) A (call (.builtin "object.__ne__") ([.ref x] ++ [b]) >>= fun v => pure (some v)) (fun a s' => wpAny (model prog w) A (match a with | some .notImplemented => pure none | none => pure none | some v => pure (some v)) (fun z s'' => ∃ r, z = some (.bool (!r)) ∧ Q (.bool (!r)) s'') E s') E s :=
      wpAny_bind (wpAny_mono body (fun v s' ⟨r, e, q⟩ => by subst e; exact wpAny_pure (wpAny_pure ⟨r, rfl, q⟩)) fun _ _ e => e)
    split
    · refine wpAny_bind ((Looks.of_pure (PySem.F.cmp_object.ne.bind _)).here (wpAny_pure ?_))
      exact fin
    · refine wpAny_tryCatch (wpAny_bind ((Looks.of_pure (PySem.F.cmp_object.ne.bind _)).here (wpAny_pure ?_)))
      exact fin
  unfold richCompare
  simp only [oneThing_ref]
  refine wpAny_holding (wpAny_bind (wpAny_cRoomFor hu ?_))
  refine wpAny_bind (I.type.here (wpAny_bind (hb.here ?_)))
  split
  · rename_i q
    have e : subIn K tb (.ref C) = some false := by
      rcases Bool.or_eq_true_iff.mp hn with z | z
      · rw [beq_iff_eq.mp z] at q; simp at q
      · exact beq_iff_eq.mp z
    refine wpAny_bind ((looks_subIn X e).here ?_)
    simp only [Bool.false_eq_true, if_false]
    refine wpAny_bind (wpAny_mono one (fun r s' z => ?_) fun _ _ e => e)
    obtain ⟨v, rfl, hq⟩ := z
    exact wpAny_pure hq
  · refine wpAny_bind (wpAny_pure ?_)
    simp only [Bool.false_eq_true, if_false]
    refine wpAny_bind (wpAny_mono one (fun r s' z => ?_) fun _ _ e => e)
    obtain ⟨v, rfl, hq⟩ := z
    exact wpAny_pure hq
end
section
variable {X : Cx} {CX : CXT} {k : Nat} {C f : Addr} {sp : Sp} {E : XK}
/-- x != y by the own == -/
def rNeO (K : Frag) (C : Addr) (sp : Sp) (E : XK) : R2 := fun x y H Q => ∃ a dx fs t, x = .ref a ∧ H a = some (.ins C dx fs) ∧ TyX K H y t ∧ notFirst K C t = true ∧ sp [.ref a, y] H (fun v H' => ∃ r, v = .bl r ∧ Q (.bl (!r)) H') E
theorem op_neO {fd : FuncData} {ps : List Str} (hm : Meth X.K C "__eq__" f) (hn : findIn X.K (.ref C) "__ne__" = some (some (.builtin "object.__ne__"))) (ho : mroIn X.K C (.type "object") = some true)
    (F : FnOk X.prog X.w X.K X.mg X.base CX k f fd ps sp) (hb : Binds X.K fd ps []) (hr : Room (k + 1) X.A) (hx : Passes CX X E) : OpR X (compareOp .NotEq) (rNeO X.K C sp E) := by
  intro pins s σ H x y v u Q I rx ry h
  obtain ⟨a, dx, fs, t, rfl, ea, ty, nf, q⟩ := h
  obtain rfl : v = Value.ref a := rx
  obtain ⟨mA, O, _⟩ := ins_get I.hok ea
  obtain ⟨od, J, _⟩ := O.look
  have hl := F.len _ _ _ _ q
  show wpAny _ _ (richCompare .NotEq (.ref a) u) _ _ s
  refine ne_K hr.units0 hr.in1.units0 I.kIn J (looks_ty I ry ty) nf hn ho hm.at_ hm.fn (wpAny_call (codeAny_mono (F.run X.A.in1 X.stack s H ⟨[.ref a, u], []⟩ [.ref a, u] [.ref a, y] _ E hr.in1 I.env0.in1 (by
    have := hb s [.ref a, u] I.kIn (by simpa using hl)
    simpa using this) (.cons rfl (.cons ry .nil)) q) fun rs s' hq => ?_))
  cases rs with
  | error e => exact hx pins σ H s e s' I hq
  | ok fl =>
    cases fl with
    | ret z =>
      obtain ⟨v, H', I', rv, r, rfl, q'⟩ := I.after hq
      obtain rfl : z = Value.bool r := rv
      exact ⟨r, rfl, .bl (!r), H', I', rfl, q'⟩
    | next => exact False.elim hq
    | brk => exact False.elim hq
    | cont => exact False.elim hq
end
end Oo
set_option Elab.async false
set_option linter.all false
set_option maxRecDepth 100000
set_option maxHeartbeats 1000000
/-! x[i], x[lo:hi], x[lo:hi:st] by an own __getitem__; the slice as an object of its own. -/
namespace Oo
open PySem PySem.Spec PyProof.Rows L2 PySem.W
/-- the slice object at a: its three parts -/
def SlcO (a : Addr) (lo hi st : Option Int) : HO := .ext fun h => ∃ vl vu vs, h.IsSliceOf a vl vu vs ∧ IsPart vl lo ∧ IsPart vu hi ∧ IsPart vs st
theorem slc_ok {P : Program} {w : World} {H : Hp} {h : Heap} {a : Addr} {lo hi st : Option Int} {vl vu vs : Value} (e : h.IsSliceOf a vl vu vs) (p1 : IsPart vl lo) (p2 : IsPart vu hi) (p3 : IsPart vs st) : ObjOk P w H h a (SlcO a lo hi st) := by
  obtain ⟨o, e1, e2, e3⟩ := e
  exact ⟨⟨vl, vu, vs, ⟨o, e1, e2, e3⟩, p1, p2, p3⟩, ⟨o, e1⟩, fun _ _ ⟨vl, vu, vs, ⟨u, b1, b2, b3⟩, c1, c2, c3⟩ k => ⟨vl, vu, vs, ⟨u, k _ b1, b2, b3⟩, c1, c2, c3⟩⟩
theorem FnOk.r0 {P : Program} {w : World} {K : PySem.W.Frag} {mg : Str → Option Value} {base : Heap} {CX : CXT} {k : Nat} {f : Addr} {fd : FuncData} {ps : List Str} {sp : Sp} (F : FnOk P w K mg base CX k f fd ps sp) (hb : Binds K fd ps []) : FnR P w K mg base CX k f sp :=
  (FnOk.raw (ds := []) (dvs := []) F hb .nil).imp fun vs H Q E h => by rw [List.append_nil]; exact h
section
variable {X : Cx} {CX : CXT} {k : Nat} {C f : Addr} {sp : Sp} {E : XK} {pins : List (Addr × Obj)} {σ : L2.St} {H : Hp} {s : Shared}
/-- the own __getitem__ called at the object a with y -/
def rGetO (C : Addr) (sp : Sp) (E : XK) : R2 := fun x y H Q => ∃ a dx fs, x = .ref a ∧ H a = some (.ins C dx fs) ∧ sp [.ref a, y] H Q E
theorem run_at {A : Around} (F : FnR X.prog X.w X.K X.mg X.base CX k f sp) (hr : Room k A) (hx : Passes CX X E) (e0 : Env0 X.prog X.w X.K X.mg X.base A X.stack s H) (I : Inv X pins σ H s) {us : List Value} {vs : List V} {Q : VK} (r : Vals vs us) (q : sp vs H Q E) :
    wpAny (model X.prog X.w) A (call (.ref f) us) (EP X pins σ Q) X.xe s := by
  refine wpAny_call (codeAny_mono (F A X.stack s H us vs Q E hr e0 r q) fun rs s' hq => ?_)
  cases rs with
  | error e => exact hx pins σ H s e s' I hq
  | ok fl =>
    cases fl with
    | ret z => exact I.after hq
    | next => exact False.elim hq
    | brk => exact False.elim hq
    | cont => exact False.elim hq
theorem sub_at {value slice : Expr} (hm : Meth X.K C "__getitem__" f) (hf : fnIn X.K f = true) (F : FnR X.prog X.w X.K X.mg X.base CX k f sp) (hr : Room (k + 1) X.A) (hx : Passes CX X E) {a dx : Addr} {fs : List (Str × V)} {y : V} {u : Value} {Q : VK} (I : Inv X pins σ H s) (ry : RelV y u)
    (ea : H a = some (.ins C dx fs)) (q : sp [.ref a, y] H Q E) (hsl : subscripted slice true (.ref a) u = runValue (.builtin "lifetime.subscript" ⟨[.ref a, u], []⟩) := by with_unfolding_all rfl) :
    wpAny (model X.prog X.w) X.A (subscriptTail value slice (.ref a) u) (EP X pins σ Q) X.xe s := by
  obtain ⟨mA, O, _⟩ := ins_get I.hok ea
  obtain ⟨od, J, _⟩ := O.look
  obtain ⟨m, hF⟩ := I.fr
  exact sub_K hF I.ok.mod.kin J hm.at_ hf hm.fn (run_at F hr.in1 hx I.env0.in1 I (us := [.ref a, u]) (vs := [.ref a, y]) (.cons rfl (.cons ry .nil)) q) hsl
theorem slice_at {value slice : Expr} (hm : Meth X.K C "__getitem__" f) (hf : fnIn X.K f = true) (hq : noSeq X.K C = true) (F : FnR X.prog X.w X.K X.mg X.base CX k f sp) (hr : Room (k + 1) X.A) (hx : Passes CX X E) {a dx : Addr} {fs : List (Str × V)} {y : V} {u : Value} {Q : VK} (I : Inv X pins σ H s) (ry : RelV y u)
    (ea : H a = some (.ins C dx fs)) (q : sp [.ref a, y] H Q E) (hsl : subscripted slice true (.ref a) u = operate [u, .ref a] (getItem (.ref a) u) := by with_unfolding_all rfl) :
    wpAny (model X.prog X.w) X.A (subscriptTail value slice (.ref a) u) (EP X pins σ Q) X.xe s := by
  obtain ⟨mA, O, _⟩ := ins_get I.hok ea
  obtain ⟨od, J, _⟩ := O.look
  obtain ⟨m, hF⟩ := I.fr
  have X₀ : X.K.In s.heap := I.kIn
  unfold fnIn at hf
  split at hf
  · rename_i e
    unfold subscriptTail getitemInPython
    refine wpAny_bind (wpAny_bind (wpAny_bind (J.type.here ((looks_findIn X₀ hm.at_).here ?_))))
    dsimp only
    refine wpAny_bind (wpAny_load (X₀ _ _ e) (wpAny_pure ?_))
    dsimp only
    rw [hsl]
    refine wpAny_bind (wpAny_operateT (getItem_K hF I.ok.mod.kin J hq hm.at_ hm.fn (thn (run_at F (hr.mono (by omega)) hx I.env0 I (us := [.ref a, u]) (vs := [.ref a, y]) (.cons rfl (.cons ry .nil)) q) fun z s' hz => ?_)))
    exact wpAny_bind (wpAny_letTemporaryGo (wpAny_pure hz))
  · cases hf
section
variable {a b : Expr} {ta tb : TE} {lo hi st : Option Expr} {tl th tt : TO} {pos p2 : Pos}
/-- x[i] -/
theorem pe_getO (hm : Meth X.K C "__getitem__" f) (hf : fnIn X.K f = true) (F : FnR X.prog X.w X.K X.mg X.base CX k f sp) (hr : Room (k + 1) X.A) (hx : Passes CX X E) (ha : PE X a ta) (hb : PE X b tb)
    (hsl : ∀ o i, subscripted b true o i = runValue (.builtin "lifetime.subscript" ⟨[o, i], []⟩) := by intro _ _; rfl) : PE X (.Subscript a b pos) (tOp (rGetO C sp E) ta tb) := by
  refine ⟨fun pins s σ H Q I h => ?_⟩
  refine Subscript_ (binT ha hb I h fun v u s2 x y H2 I2 rx ry q => ?_)
  obtain ⟨p, dx, fs, rfl, ea, q⟩ := q
  obtain rfl : v = Value.ref p := rx
  exact sub_at hm hf F hr hx I2 ry ea q (hsl _ _)
/-- x[lo:hi], x[lo:hi:st] -/
def tSlcO (C : Addr) (sp : Sp) (E : XK) (ta : TE) (tl th tt : TO) : TE := fun σ H Q => ta σ H fun x H1 => tl σ H1 fun l H2 => th σ H2 fun u H3 => tt σ H3 fun t H4 => ∀ p, H4 p = none → rGetO C sp E x (.ref p) (upd H4 p (SlcO p l u t)) Q
theorem parts_at {pins : List (Addr × Obj)} {s : Shared} {σ : L2.St} {H : Hp} {R : V → Hp → Prop} {x : V} {W : Value → Shared → Prop} (hl : PO X lo tl) (hu : PO X hi th) (ht : PO X st tt) (I : Inv X pins σ H s)
    (h : tl σ H fun l H2 => th σ H2 fun u H3 => tt σ H3 fun t H4 => ∀ p, H4 p = none → R (.ref p) (upd H4 p (SlcO p l u t))) (hw : ∀ p H' s', Inv X pins σ H' s' → R (.ref p) H' → W (.ref p) s') :
    wpAny (model X.prog X.w) X.A (eval (.Slice lo hi st p2) X.env) W X.xe s := by
  refine wpAny_Slice (thn (hl.run pins s σ H _ I h) fun vl s2 ⟨l, H2, I2, pl, q2⟩ => thn (hu.run pins s2 σ H2 _ I2 q2) fun vu s3 ⟨u, H3, I3, pu, q3⟩ => thn (ht.run pins s3 σ H3 _ I3 q3) fun vs s4 ⟨t, H4, I4, ps, q4⟩ => ?_)
  have J := I4.laid (t' := s4.toks) (o := SlcO s4.heap.objs.size l u t) (fun b ob q => Heap.get?_push_of_some _ q) (Nat.le_refl _) (slc_ok (Heap.IsSliceOf.new s4.heap vl vu vs) pl pu ps)
  exact hw _ _ _ J (q4 _ (I4.hok.fresh (Nat.le_refl _)))
theorem pe_slcO (hm : Meth X.K C "__getitem__" f) (hf : fnIn X.K f = true) (hq : noSeq X.K C = true) (F : FnR X.prog X.w X.K X.mg X.base CX k f sp) (hr : Room (k + 1) X.A) (hx : Passes CX X E) (ha : PE X a ta) (hl : PO X lo tl) (hu : PO X hi th) :
    PE X (.Subscript a (.Slice lo hi none p2) pos) (tSlcO C sp E ta tl th tNoPart) := by
  refine ⟨fun pins s σ H Q I h => ?_⟩
  refine Subscript_ (thn (ha.run pins s σ H _ I h) fun v s1 ⟨x, H1, I1, rx, q⟩ => ?_)
  refine parts_at (x := x) (R := fun y H' => rGetO C sp E x y H' Q) hl hu po_none I1 q fun p H' s' J q' => ?_
  obtain ⟨o, dx, fs, rfl, ea, q'⟩ := q'
  obtain rfl : v = Value.ref o := rx
  exact slice_at hm hf hq F hr hx J (y := .ref p) rfl ea q'
theorem pe_slcO3 {e3 : Expr} (hm : Meth X.K C "__getitem__" f) (hf : fnIn X.K f = true) (F : FnR X.prog X.w X.K X.mg X.base CX k f sp) (hr : Room (k + 1) X.A) (hx : Passes CX X E) (ha : PE X a ta) (hl : PO X lo tl) (hu : PO X hi th) (ht : PO X (some e3) tt) :
    PE X (.Subscript a (.Slice lo hi (some e3) p2) pos) (tSlcO C sp E ta tl th tt) := by
  refine ⟨fun pins s σ H Q I h => ?_⟩
  refine Subscript_ (thn (ha.run pins s σ H _ I h) fun v s1 ⟨x, H1, I1, rx, q⟩ => ?_)
  refine parts_at (x := x) (R := fun y H' => rGetO C sp E x y H' Q) hl hu ht I1 q fun p H' s' J q' => ?_
  obtain ⟨o, dx, fs, rfl, ea, q'⟩ := q'
  obtain rfl : v = Value.ref o := rx
  exact sub_at hm hf F hr hx J (y := .ref p) rfl ea q'
end
end
end Oo
set_option Elab.async false
set_option linter.all false
set_option maxRecDepth 100000
set_option maxHeartbeats 1000000
/-! C(*xs), c(*xs) by a local name, C(), C.m(e) of a static method, C.m(k = e) of a class method. -/
namespace Oo
open PySem PySem.Spec PyProof.Rows L2 PySem.W
section
variable {X : Cx} {CX : CXT} {k : Nat} {C f g p : Addr} {sp : Sp} {E : XK} {mc : Value}
/-- what is asked of __init__ when an instance of the class at C is made with the values vs -/
def wNew (C : Addr) (sp : Sp) (E : XK) (vs : List V) (H1 : Hp) (Q : VK) : Prop := ∀ x dx, H1 x = none → H1 dx = none → dx ≠ x → sp (V.ref x :: vs) (upd (upd H1 dx (.own x)) x (.ins C dx [])) (fun v H2 => v = .non ∧ Q (.ref x) H2) E
def tStarNew (K : Frag) (C : Addr) (sp : Sp) (E : XK) (te : TE) : TE := fun σ H Q => te σ H fun y H1 => ∃ a xs, y = V.ref a ∧ (SqT K H1 a xs ∨ SqL K H1 a xs) ∧ wNew C sp E xs H1 Q
section
variable {x : Str} {e : Expr} {te : TE} {sp_ p1 pos : Pos}
theorem pe_newS (M : Mk X.K C f) (F : FnR X.prog X.w X.K X.mg X.base CX k f sp) (hr : Room (k + 1) X.A) (hg : Gl X x) (hm : X.mg x = some (.ref C)) (hx : Passes CX X E) (he : PE X e te) (hd : (x == ("__debug__" : Str)) = false := by decide)
    (hst : starEach [.Starred e sp_] X.env = [(true, eval e X.env)] := by rfl) : PE X (.Call (.Name x p1) [.Starred e sp_] [] pos) (tStarNew X.K C sp E te) := by
  refine ⟨fun pins s σ H Q I h => ?_⟩
  refine wpAny_Call_Name_kw (ld_glob I hg hm ?_ hd)
  refine callWith_S (h₀ := X.base) I.ok.mod.kin M.kp (thn (he.run pins s σ H _ I h) fun v s1 ⟨y, H1, I1, ry, a, xs, ey, hxs, q⟩ => ?_) hst
  subst ey
  obtain rfl : v = Value.ref a := ry
  exact StX.star_any I1 hxs fun us s2 I2 rv => ⟨I2.kIn, StX.run_makeR M F hr hx I2 rv q⟩
/-- c(*xs), the local c holds the class -/
theorem pe_newL {i : Nat} (M : Mk X.K C f) (F : FnR X.prog X.w X.K X.mg X.base CX k f sp) (hr : Room (k + 1) X.A) (hN : X.N[i]? = some x) (hv : Vis X.env.scope x) (hx : Passes CX X E) (he : PE X e te)
    (hd : (x == ("__debug__" : Str)) = false := by decide) (hcd : (x == ("__classdict__" : Str)) = false := by decide)
    (hst : starEach [.Starred e sp_] X.env = [(true, eval e X.env)] := by rfl) : PE X (.Call (.Name x p1) [.Starred e sp_] [] pos) (fun σ H Q => σ[i]? = some (some (.ref C)) ∧ tStarNew X.K C sp E te σ H Q) := by
  refine ⟨fun pins s σ H Q I h => ?_⟩
  obtain ⟨hs, h⟩ := h
  refine wpAny_Call_Name_kw (thn ((pe_var (pos := p1) hN hv hd hcd).run pins s σ H (fun v H1 => v = .ref C ∧ H1 = H) I ⟨.ref C, hs, rfl, rfl⟩) fun u s0 ⟨v, H0, I0, r0, q0⟩ => ?_)
  obtain ⟨rfl, rfl⟩ := q0
  obtain rfl : u = Value.ref C := r0
  refine callWith_S (h₀ := X.base) I.ok.mod.kin M.kp (thn (he.run pins s0 σ _ _ I0 h) fun v s1 ⟨y, H1, I1, ry, a, xs, ey, hxs, q⟩ => ?_) hst
  subst ey
  obtain rfl : v = Value.ref a := ry
  exact StX.star_any I1 hxs fun us s2 I2 rv => ⟨I2.kIn, StX.run_makeR M F hr hx I2 rv q⟩
/-- C() -/
theorem pe_new0 (M : Mk X.K C f) (F : FnR X.prog X.w X.K X.mg X.base CX k f sp) (hr : Room (k + 1) X.A) (hg : Gl X x) (hm : X.mg x = some (.ref C)) (hx : Passes CX X E) (hd : (x == ("__debug__" : Str)) = false := by decide) :
    PE X (.Call (.Name x p1) [] [] pos) (fun _ H Q => wNew C sp E [] H Q) := by
  refine ⟨fun pins s σ H Q I h => ?_⟩
  refine wpAny_Call_Name_kw (ld_glob I hg hm ?_ hd)
  exact callWith_K0 (first := []) I.kIn M.kp (StX.run_makeR (us := []) (vs := []) M F hr hx I .nil h)
end
/-- C.m is a static method: its record at p, its def at g -/
structure SMet (K : Frag) (C : Addr) (mc : Value) (m : Str) (p g : Addr) : Prop where
  at_ : findCls K (.ref C) mc m = some (.get (.builtin "staticmethod.__get__") (.ref p) .none (.ref C))
  rc : ∃ rest, recIn K p "staticmethod" = some (.ref g :: rest)
  kp : keepIn K (.ref g) = true
theorem smet_of {K : Frag} {m : Str} {C : Addr} (h : He5.wrapB K C "staticmethod" "staticmethod.__get__" m = true) (hk : keepIn K (.ref (He5.wf K C "staticmethod" m)) = true) : SMet K C (.type "type") m (He.ma K C m) (He5.wf K C "staticmethod" m) := by
  obtain ⟨h1, h2⟩ := He5.wrapB_ok h
  exact ⟨h1, h2, hk⟩
section
variable {pins : List (Addr × Obj)} {σ : L2.St} {H : Hp} {s : Shared} {m : Str} {A : Around} {E' : Value → Shared → Prop}
theorem getsm_ok {pl : Sem Bool} {Q : Value × List Value → Shared → Prop} (I : Inv X pins σ H s) (r : ClX.CRead X.K C mc) (c : SMet X.K C mc m p g) (h : ∀ s', Inv X pins σ H s' → Q (.ref g, []) s') : wpAny (model X.prog X.w) A (getMethod (.ref C) m pl) Q E' s := by
  obtain ⟨rest, hp⟩ := c.rc
  refine method_cls I.kIn r.ga (cls_bind I.kIn r.rd c.at_ ?_)
  exact wpAny_call (sm_get (s := { s with toks := s.toks + 1 }) I.kIn hp (handed_on rfl (h _ (I.tok _))))
end
section
variable {o e : Expr} {es : List Expr} {to : TE} {t : TA} {m : Str} {apos pos : Pos} {pl : Sem Bool}
def tSMeth (C : Addr) (sp : Sp) (E : XK) (ta : TE) (t : TA) : TE := fun σ H Q => ta σ H fun x H1 => x = .ref C ∧ t σ H1 fun vs H2 => sp vs H2 Q E
/-- C.m(e), m a static method -/
theorem pe_smeth (he : PE X o to) (r : ClX.CRead X.K C mc) (c : SMet X.K C mc m p g) (F : FnR X.prog X.w X.K X.mg X.base CX k g sp) (hr : Room k X.A) (hx : Passes CX X E) (ha : PA X (e :: es) t)
    (hst : starEach (e :: es) X.env = (false, eval e X.env) :: starEach es X.env := by rfl) (hpl : (backTo pos (starEach es X.env)).any (·.1) = false := by rfl)
    (ht : eval (.Call (.Attribute o m apos) (e :: es) [] pos) X.env = (do
      let u ← eval o X.env
      standAt apos.atName
      let (f, first) ← holding [u] (getMethod u m pl)
      callWith pos f first (backTo pos (starEach (e :: es) X.env)) (backToKw pos (keywordEach [] X.env))) := by rfl) :
    PE X (.Call (.Attribute o m apos) (e :: es) [] pos) (tSMeth C sp E to t) := by
  refine ⟨fun pins s σ H Q I h => ?_⟩
  refine methodCall_KW (pl := pl) (thn (he.run pins s σ H _ I h) fun u s1 ⟨x, H1, I1, rx, ex, q⟩ => ?_) ht
  subst ex
  obtain rfl : u = Value.ref C := rx
  refine getsm_ok I1 r c fun s2 I2 => ?_
  refine callWith_K (h₀ := X.base) I2.ok.mod.kin c.kp (thn (ha.run pos pins s2 σ H1 _ I2 q) fun us s3 ⟨vs, H2, I3, rv, q2⟩ => ⟨I3.kIn, ?_⟩) hst hpl
  exact wpAny_call (run_fnR F hr hx I3 rv q2)
end
end
end Oo
set_option Elab.async false
set_option linter.all false
set_option maxRecDepth 100000
set_option maxHeartbeats 2000000
/-! C(e, .., k = v) of a class whose __init__ is (self, *v, k=None). -/
namespace Sk
open PySem PySem.Spec PyProof.Rows L2 PySem.W StX
abbrev SpK : Type := List V → V → Hp → VK → XK → Prop
/-- t looks q up in the dict at D, finds v, and goes on as u -/
def KwOne {α : Type} (D : Addr) (q : Str) (v : Value) (t u : Sem α) : Prop := ∃ (β γ : Type) (k1 : Option Value → Sem β) (k2 : β → Sem γ) (k3 : γ → Sem α) (a : β), t = ((nsGet D q >>= k1) >>= k2) >>= k3 ∧ k1 (some v) = pure a ∧ k2 a >>= k3 = u
theorem KwOne.wp {α : Type} {K : Frag} {M : Model} {A : Around} {D : Addr} {q : Str} {v : Value} {t u : Sem α} {Q : α → Shared → Prop} {E : Value → Shared → Prop} {s : Shared} (k : KwOne D q v t u) (X : K.In s.heap) (h : nsIn K D q = some (some v)) (g : wpAny M A u Q E s) : wpAny M A t Q E s := by
  obtain ⟨β, γ, k1, k2, k3, a, e1, e2, e3⟩ := k
  have l1 : Looks M s.heap (nsGet D q >>= k1) a := (looks_nsIn X h).andThen (Looks.of_pure e2)
  rw [e1, bind_assoc]
  refine wpAny_bind (l1.here ?_)
  rw [e3]
  exact g
/-- a def called with values and perhaps the keyword kn -/
def FnSK (P : Program) (w : World) (K : Frag) (mg : Str → Option Value) (base : Heap) (CX : CXT) (k : Nat) (f : Addr) (kn : Str) (sp : SpK) : Prop :=
  ∀ (A : Around) (outer : List Env) (s : Shared) (H : Hp) (us : List Value) (vs : List V) (kw : List (Str × Value)) (u : V) (Q : VK) (E : XK), Room k A → Env0 P w K mg base A outer s H → Vals vs us →
    ((kw = [] ∧ u = .non) ∨ ∃ uv, kw = [(kn, uv)] ∧ RelV u uv) → sp vs u H Q E → codeAny (model P w) A (.call (.ref f) ⟨us, kw⟩) (CR CX outer P w H s Q E) s
def spSK (sp : Sp) : SpK := fun vs u H Q E => ∃ v0 rest, vs = v0 :: rest ∧ rest.length ≤ sizeLine ∧ ∀ p, H p = none → sp [v0, u, .ref p] (upd H p (.tup rest)) Q E
section
variable {CX : CXT} {P : Program} {w : World} {K : Frag} {mg : Str → Option Value} {base : Heap} {k : Nat} {f : Addr} {name qual : Str} {params : Arguments} {body : List Stmt} {scope : Scope} {dV kV doc pm cdv ct oc : Value} {an od : Option Addr}
  {osl : Array (Option Value)} {N : List Str} {sp : Sp} {p1 kn pv : Str}
theorem fn_sk (lk : K.lookup f = some ⟨oc, od, .func (fnOf name qual params body scope dV kV doc pm an cdv ct), osl⟩) (hcd : codeIn K cdv qual = true) (S : FnScope N [p1, kn, pv] scope) (hCX : CXUp CX)
    (hb1 : ∀ (a : Value) (rest : List Value) (u : Value), bindArgs (fnOf name qual params body scope dV kV doc pm an cdv ct) ⟨a :: rest, [(kn, u)]⟩ = (newTuple rest >>= fun t => pure [(p1, a), (kn, u), (pv, t)]))
    (hb0 : ∃ D, nsIn K D kn = some (some .none) ∧ ∀ (a : Value) (rest : List Value), KwOne D kn .none (bindArgs (fnOf name qual params body scope dV kV doc pm an cdv ct) ⟨a :: rest, []⟩) (newTuple rest >>= fun t => pure [(p1, a), (kn, .none), (pv, t)]))
    (hbody : ∀ (A : Around) (outer : List Env) (s : Shared) (H : Hp) (vs : List V) (Q : VK) (E : XK), Room k (A.deeper (envOfC qual scope s.heap.objs.size f cdv)) → sp vs H Q E →
      ∃ t, PSs (cxOf CX P w K mg base N qual scope f cdv A outer s H E) body t ∧ t { nx := fun _ H' => Q .non H', rt := Q } (start N vs) H) : FnSK P w K mg base CX (k + 1) f kn (spSK sp) := by
  intro A outer s H us vs kw u Q E hr e0 r hkw hsp
  obtain ⟨v0, rest, ev, hz, hq⟩ := hsp
  subst ev
  obtain ⟨u0, us, rfl, r1, r2⟩ : ∃ u0 us', us = u0 :: us' ∧ RelV v0 u0 ∧ Vals rest us' := by
    cases r with
    | cons a b => exact ⟨_, _, rfl, a, b⟩
  have hn : H s.heap.objs.size = Option.none := e0.hok.fresh (Nat.le_refl _)
  have hl2 : us.length ≤ sizeLine := by rw [← r2.length]; exact hz
  refine run_bnd (ps := [p1, kn, pv]) lk hcd S hr e0 (G := fun xs H2 => ∃ p, H p = Option.none ∧ xs = [v0, u, V.ref p] ∧ H2 = upd H p (.tup rest)) (fun A' Ex Q' h => ?_) fun s2 H2 xs ⟨p, hp, ex, eH⟩ hr' => ?_
  · have new : ObjOk P w (upd H s.heap.objs.size (.tup rest)) (s.heap.push ({ cls := .type "tuple", data := .seq us.toArray } : Obj)) s.heap.objs.size (.tup rest) := ⟨hz, us, r2, ⟨_, Heap.get?_push_size _ rfl, rfl, _, rfl⟩⟩
    have un := un_laid (fs := frs outer) (s := s) (o := ({ cls := .type "tuple", data := .seq us.toArray } : Obj)) (u := .tup rest) hn
    have go : ∀ uv, RelV u uv → wpAny (model P w) A' (newTuple us >>= fun t => pure [(p1, u0), (kn, uv), (pv, t)]) Q' Ex s := fun uv ru => by
      refine wpAny_bind (wpAny_newTuple (wpAny_pure ?_) hl2)
      exact h _ _ [v0, u, V.ref s.heap.objs.size] [u0, uv, Value.ref s.heap.objs.size] (env0_laid e0 new) un rfl (fun e s' => hCX outer s H _ _ E e s' un (fun b o q => Heap.get?_push_of_some _ q) rfl) (.cons r1 (.cons ru (.cons rfl .nil))) rfl ⟨_, hn, rfl, rfl⟩
    rcases hkw with ⟨rfl, rfl⟩ | ⟨uv, rfl, ru⟩
    · obtain ⟨D, hD, hk⟩ := hb0
      have KX : K.In s.heap := e0.mod.kin.keeps fun b o e => (e0.bs b o e).1
      exact (hk u0 us).wp KX hD (go .none rfl)
    · rw [hb1 u0 us uv]
      exact go uv ru
  · subst ex eH
    exact hbody A outer s2 _ _ Q E hr' (hq p hp)
end
/-- what is asked of __init__ -/
def wSK (C : Addr) (sp : SpK) (E : XK) (vs : List V) (u : V) (H1 : Hp) (Q : VK) : Prop := ∀ x dx, H1 x = none → H1 dx = none → dx ≠ x → sp (V.ref x :: vs) u (upd (upd H1 dx (.own x)) x (.ins C dx [])) (fun v H2 => v = .non ∧ Q (.ref x) H2) E
def tSK (C : Addr) (sp : SpK) (E : XK) (t : TA) : TE := fun σ H Q => t σ H fun vs H1 => wSK C sp E vs .non H1 Q
def tSKK (C : Addr) (sp : SpK) (E : XK) (t tk : TA) : TE := fun σ H Q => t σ H fun vs H1 => tk σ H1 fun zs H2 => ∃ u, zs = [u] ∧ wSK C sp E vs u H2 Q
section
variable {X : Cx} {CX : CXT} {k : Nat} {C f : Addr} {kn : Str} {sp : SpK} {E : XK} {x : Str} {e : Expr} {es : List Expr} {kws : List Keyword} {t tk : TA} {p pos : Pos}
theorem run_sk {pins : List (Addr × Obj)} {σ : L2.St} {H : Hp} {s : Shared} {Q : VK} {us : List Value} {vs : List V} {kw : List (Str × Value)} {u : V} (M : Mk X.K C f) (F : FnSK X.prog X.w X.K X.mg X.base CX k f kn sp) (hr : Room (k + 1) X.A) (hx : Passes CX X E)
    (I : Inv X pins σ H s) (r : Vals vs us) (hk : (kw = [] ∧ u = .non) ∨ ∃ uv, kw = [(kn, uv)] ∧ RelV u uv) (h : wSK C sp E vs u H Q) : wpAny (model X.prog X.w) X.A (call (.ref C) us kw) (EP X pins σ Q) X.xe s := by
  have hq := h (s.heap.objs.size + 1) s.heap.objs.size (I.hok.fresh (Nat.le_succ _)) (I.hok.fresh (Nat.le_refl _)) (Nat.ne_of_lt (Nat.lt_succ_self _))
  have I2 := Inv.made (C := C) I
  have r2 : Vals (V.ref (s.heap.objs.size + 1) :: vs) (Value.ref (s.heap.objs.size + 1) :: us) := .cons rfl r
  refine wpAny_call (make_map (f := f) I.kIn M.makes M.init (beq_iff_eq.mp M.fn) (codeAny_mono (F _ X.stack _ _ (Value.ref (s.heap.objs.size + 1) :: us) _ kw u _ E (hr.make C us kw) (I2.env0.make C us kw) r2 hk hq) fun r s' hq' => ?_))
  cases r with
  | error e => exact hx pins σ _ _ e s' I2 hq'
  | ok fl =>
    cases fl with
    | ret u =>
      obtain ⟨v, H', I3, rv, ev, q3⟩ := I2.after hq'
      subst ev
      exact ⟨rv, ⟨V.ref (s.heap.objs.size + 1), H', I3, rfl, q3⟩⟩
    | next => exact False.elim hq'
    | brk => exact False.elim hq'
    | cont => exact False.elim hq'
/-- C(e, ..) -/
theorem pe_sk (M : Mk X.K C f) (F : FnSK X.prog X.w X.K X.mg X.base CX k f kn sp) (hr : Room (k + 1) X.A) (hg : Gl X x) (hm : X.mg x = some (.ref C)) (hx : Passes CX X E) (ha : PA X (e :: es) t) (hdb : (x == ("__debug__" : Str)) = false := by decide)
    (he : starEach (e :: es) X.env = (false, eval e X.env) :: starEach es X.env := by rfl) (hpl : (backTo pos (starEach es X.env)).any (·.1) = false := by rfl) : PE X (.Call (.Name x p) (e :: es) [] pos) (tSK C sp E t) := by
  refine ⟨fun pins s σ H Q I h => ?_⟩
  refine wpAny_Call_Name_kw (ld_glob I hg hm ?_ hdb)
  refine callWith_K (h₀ := X.base) I.ok.mod.kin M.kp (thn (ha.run pos pins s σ H _ I h) fun us s1 ⟨vs, H1, I1, r, q⟩ => ⟨I1.kIn, ?_⟩) he hpl
  exact run_sk M F hr hx I1 r (.inl ⟨rfl, rfl⟩) q
/-- C() -/
theorem pe_sk0 (M : Mk X.K C f) (F : FnSK X.prog X.w X.K X.mg X.base CX k f kn sp) (hr : Room (k + 1) X.A) (hg : Gl X x) (hm : X.mg x = some (.ref C)) (hx : Passes CX X E) (hdb : (x == ("__debug__" : Str)) = false := by decide) :
    PE X (.Call (.Name x p) [] [] pos) (tSK C sp E tNil) := by
  refine ⟨fun pins s σ H Q I h => ?_⟩
  refine wpAny_Call_Name_kw (ld_glob I hg hm ?_ hdb)
  exact callWith_K0 (first := []) I.kIn M.kp (run_sk (us := []) (vs := []) M F hr hx I .nil (.inl ⟨rfl, rfl⟩) h)
theorem kw_one {us : List Value} {zs : List V} {u : V} (r : Vals zs us) (e : zs = [u]) : ∃ uv, us = [uv] ∧ RelV u uv := by
  subst e
  cases r with
  | cons a b =>
    cases b
    exact ⟨_, rfl, a⟩
/-- C(e, .., k = v) -/
theorem pe_skK (M : Mk X.K C f) (F : FnSK X.prog X.w X.K X.mg X.base CX k f kn sp) (hr : Room (k + 1) X.A) (hg : Gl X x) (hm : X.mg x = some (.ref C)) (hx : Passes CX X E) (ha : PA X (e :: es) t) (hkw : PK X kws tk)
    (hall : (backToKw pos (keywordEach kws X.env)).all (·.1.isSome) = true := by rfl) (hks : (backToKw pos (keywordEach kws X.env)).filterMap (·.1) = [kn] := by rfl) (hdb : (x == ("__debug__" : Str)) = false := by decide)
    (he : starEach (e :: es) X.env = (false, eval e X.env) :: starEach es X.env := by rfl) (hpl : ((backTo pos (starEach (e :: es) X.env)).any (·.1) || (backToKw pos (keywordEach kws X.env)).any (·.1.isNone)) = false := by rfl) :
    PE X (.Call (.Name x p) (e :: es) kws pos) (tSKK C sp E t tk) := by
  refine ⟨fun pins s σ H Q I h => ?_⟩
  refine wpAny_Call_Name_kw (ld_glob I hg hm ?_ hdb)
  refine callWith_KW (h₀ := X.base) I.ok.mod.kin M.kp hall (thn (ha.run pos pins s σ H _ I h) fun us s1 ⟨vs, H1, I1, r, q⟩ => ?_) hpl he
  refine thn (hkw.run pos pins s1 σ H1 _ I1 q) fun ws s2 ⟨zs, H2, I2, rz, u, ez, q2⟩ => ⟨I2.kIn, ?_⟩
  obtain ⟨uv, rfl, ru⟩ := kw_one rz ez
  rw [hks]
  exact run_sk M F hr hx I2 r (.inr ⟨uv, rfl, ru⟩) q2
/-- C(k = v) -/
theorem pe_skK0 (M : Mk X.K C f) (F : FnSK X.prog X.w X.K X.mg X.base CX k f kn sp) (hr : Room (k + 1) X.A) (hg : Gl X x) (hm : X.mg x = some (.ref C)) (hx : Passes CX X E) (hkw : PK X kws tk)
    (hall : (backToKw pos (keywordEach kws X.env)).all (·.1.isSome) = true := by rfl) (hks : (backToKw pos (keywordEach kws X.env)).filterMap (·.1) = [kn] := by rfl) (hdb : (x == ("__debug__" : Str)) = false := by decide)
    (hpl : ((backTo pos (starEach [] X.env)).any (·.1) || (backToKw pos (keywordEach kws X.env)).any (·.1.isNone)) = false := by rfl) :
    PE X (.Call (.Name x p) [] kws pos) (tSKK C sp E tNil tk) := by
  refine ⟨fun pins s σ H Q I h => ?_⟩
  refine wpAny_Call_Name_kw (ld_glob I hg hm ?_ hdb)
  refine callWith_KW0 (h₀ := X.base) I.ok.mod.kin M.kp hall ?_ hpl
  refine thn (hkw.run pos pins s σ H _ I h) fun ws s2 ⟨zs, H2, I2, rz, u, ez, q2⟩ => ⟨I2.kIn, ?_⟩
  obtain ⟨uv, rfl, ru⟩ := kw_one rz ez
  rw [hks]
  exact run_sk (us := []) (vs := []) M F hr hx I2 .nil (.inr ⟨uv, rfl, ru⟩) q2
end
end Sk
set_option Elab.async false
set_option linter.all false
set_option maxRecDepth 100000
set_option maxHeartbeats 1000000
/-! The __init__s of the deeds' classes. -/
namespace K8
open PySem PySem.Spec PyProof.Rows L2 RV EV He EF EI LamX
/-- one check behind another -/
def thenE (a b : Option Err) : Option Err := match a with
  | none => b
  | some e => some e
def Om (K : PySem.W.Frag) (H : Hp) (p C dx : Addr) (o : Option Err) (fs : List (Str × V)) (Q : VK) (E : XK) : Prop := match o with
  | none => ∀ H', Same2 H H' p → H' p = some (.ins C dx fs) → Q .non H'
  | some e => ∀ H', Same2 H H' p → Bad1 (ga K e.1) e.2.1 H' E e.2.2
section
variable {K : PySem.W.Frag} {H H1 : Hp} {p C dx : Addr} {o1 o2 : Option Err} {fs : List (Str × V)} {Q : VK} {E : XK} {R : Hp → Prop}
theorem om_step (c : Om K H p C dx (thenE o1 o2) fs Q E) (s : Same2 H H1 p) (k : o1 = none → Om K H p C dx o2 fs Q E → ∀ H2, Same H1 H2 → R H2) : Oc K H1 o1 R E := by
  cases o1 with
  | none => exact fun H2 s2 => k rfl c H2 s2
  | some e => exact fun H2 s2 => c H2 (s.trans (Same.two s2 p))
theorem om_last (c : Om K H p C dx o1 fs Q E) (s : Same2 H H1 p) (k : o1 = none → (∀ H', Same2 H H' p → H' p = some (.ins C dx fs) → Q .non H') → ∀ H2, Same H1 H2 → R H2) : Oc K H1 o1 R E := by
  cases o1 with
  | none => exact fun H2 s2 => k rfl c H2 s2
  | some e => exact fun H2 s2 => c H2 (s.trans (Same.two s2 p))
end
def ckUp (u : V) : Option Err := if u = .non then none else ckFix u
def oc1 (ck : V → Option Err) : List V → Option Err
  | [v] => ck v
  | _ => none
def oc2 (ck : V → V → Option Err) : List V → Option Err
  | [v, u] => ck v u
  | _ => none
def spMk (K : PySem.W.Frag) (C : Addr) (n : Nat) (oc : List V → Option Err) (fl : List V → List (Str × V)) : Sp := fun vs H Q E => ∃ p dx as, vs = .ref p :: as ∧ as.length = n ∧ H p = some (.ins C dx []) ∧ AllOdd H as ∧ Om K H p C dx (oc as) (fl as) Q E
/-- the same with a star and a stop -/
def spMkS (K : PySem.W.Frag) (C : Addr) (oc : V → List V → Option Err) (f g : Str) : Sp := fun vs H Q E => ∃ p dx u a xs, vs = [.ref p, u, .ref a] ∧ H p = some (.ins C dx []) ∧ H a = some (.tup xs) ∧ (∃ d, Odd H u d) ∧ AllOdd H xs ∧ Om K H p C dx (oc u xs) [(f, .ref a), (g, u)] Q E
def ocLines (u : V) (xs : List V) : Option Err := thenE (ckRise "NoLine" "line" 6 xs) (ckStop "NoLine" "line" (xs.map intV) u)
def ocDays (u : V) (xs : List V) : Option Err := thenE (ckRise "NoDay" "day" 200 xs) (ckStop "NoDay" "day" (xs.map intV) u)
theorem ck_line {lo : Int} {v : V} (h : ckLine lo v = none) : v = .int (intV v) := by
  unfold ckLine at h
  cases e : inB v lo 6 with
  | true => exact in_int e
  | false => rw [e] at h; cases h
section
variable {P : Program} {w : World} {K : PySem.W.Frag} {mg : Str → Option Value} {base : Heap}
theorem scI_Fix : FnScope ["self", "fix"] ["self", "fix"] (defScope (iSt 46)) := ⟨rfl, rfl, rfl, by decide +kernel, rfl, by decide +kernel, by decide +kernel⟩
theorem ok_Fix (T : KF P w K mg base) {fd : FuncData} (F : IniD K ("Fix", 46) fd) : FnOk P w K mg base (L2.CX P w) 5 (ma K (ga K "Fix") "__init__") fd ["self", "fix"] (spMk K (ga K "Fix") 1 (oc1 fun v => (ckFix v)) (fun as => match as with | [v] => [("fix", v)] | _ => [])) := by
  obtain ⟨fF, GF, bF, kF, gF⟩ := c_ckfix (w := w) T
  obtain ⟨_, clC, _⟩ := T.gk ("Fix", 46) (by decide)
  refine (FunD.ok (k := 4) F scI_Fix (fun vs H Q E h => ?_) (fun cdv A outer s H vs Q E hr h => ?_))
  · obtain ⟨p, dx, as, rfl, hl, _⟩ := h
    show as.length + 1 = 2
    rw [hl]
  · obtain ⟨p, dx, as, rfl, hl, hp, ao, c⟩ := h
    obtain ⟨v, rfl⟩ : ∃ v, as = [v] := by
      match as, hl with
      | [v], _ => exact ⟨_, rfl⟩
    obtain ⟨dv, ov⟩ := ao v (by simp)
    refine ⟨_, pss_one (ps_fld (pv 0) (pe_call (E := E) GF (hr.mono (by decide)) (by rfl) gF kF bF .nil (passes_call (takes_of rfl rfl rfl rfl) fun _ _ _ _ h => h) (pa_cons (pv 1) pa_nil)) rfl), ?_⟩
    have c : Om K H p (ga K "Fix") dx (ckFix v) [("fix", v)] Q E := c
    refine ⟨_, rfl, ?_⟩
    try unfold tNil
    show spCk K ckFix [v] _ _ _
    refine ⟨v, dv, rfl, ov, om_last c (fun _ _ _ e => e) fun ev c H12 s12 => ?_⟩
    refine ⟨_, rfl, p, _, dx, _, rfl, s12 _ _ hp, clC, T.no ("Fix", "fix") (by decide), by show 0 < 1000; decide, ?_⟩
    exact c _ (Same2.trans (Same.two s12 p) two_upd) upd_same
theorem scI_Unfix : FnScope ["self", "fix"] ["self", "fix"] (defScope (iSt 47)) := ⟨rfl, rfl, rfl, by decide +kernel, rfl, by decide +kernel, by decide +kernel⟩
theorem ok_Unfix (T : KF P w K mg base) {fd : FuncData} (F : IniD K ("Unfix", 47) fd) : FnOk P w K mg base (L2.CX P w) 5 (ma K (ga K "Unfix") "__init__") fd ["self", "fix"] (spMk K (ga K "Unfix") 1 (oc1 fun v => (ckFix v)) (fun as => match as with | [v] => [("fix", v)] | _ => [])) := by
  obtain ⟨fF, GF, bF, kF, gF⟩ := c_ckfix (w := w) T
  obtain ⟨_, clC, _⟩ := T.gk ("Unfix", 47) (by decide)
  refine (FunD.ok (k := 4) F scI_Unfix (fun vs H Q E h => ?_) (fun cdv A outer s H vs Q E hr h => ?_))
  · obtain ⟨p, dx, as, rfl, hl, _⟩ := h
    show as.length + 1 = 2
    rw [hl]
  · obtain ⟨p, dx, as, rfl, hl, hp, ao, c⟩ := h
    obtain ⟨v, rfl⟩ : ∃ v, as = [v] := by
      match as, hl with
      | [v], _ => exact ⟨_, rfl⟩
    obtain ⟨dv, ov⟩ := ao v (by simp)
    refine ⟨_, pss_one (ps_fld (pv 0) (pe_call (E := E) GF (hr.mono (by decide)) (by rfl) gF kF bF .nil (passes_call (takes_of rfl rfl rfl rfl) fun _ _ _ _ h => h) (pa_cons (pv 1) pa_nil)) rfl), ?_⟩
    have c : Om K H p (ga K "Unfix") dx (ckFix v) [("fix", v)] Q E := c
    refine ⟨_, rfl, ?_⟩
    try unfold tNil
    show spCk K ckFix [v] _ _ _
    refine ⟨v, dv, rfl, ov, om_last c (fun _ _ _ e => e) fun ev c H12 s12 => ?_⟩
    refine ⟨_, rfl, p, _, dx, _, rfl, s12 _ _ hp, clC, T.no ("Unfix", "fix") (by decide), by show 0 < 1000; decide, ?_⟩
    exact c _ (Same2.trans (Same.two s12 p) two_upd) upd_same
theorem scI_Carry : FnScope ["self", "fix", "line"] ["self", "fix", "line"] (defScope (iSt 49)) := ⟨rfl, rfl, rfl, by decide +kernel, rfl, by decide +kernel, by decide +kernel⟩
theorem ok_Carry (T : KF P w K mg base) {fd : FuncData} (F : IniD K ("Carry", 49) fd) : FnOk P w K mg base (L2.CX P w) 5 (ma K (ga K "Carry") "__init__") fd ["self", "fix", "line"] (spMk K (ga K "Carry") 2 (oc2 fun v u => (thenE (ckFix v) (ckLine 1 u))) (fun as => match as with | [v, u] => [("fix", v), ("line", u)] | _ => [])) := by
  obtain ⟨fF, GF, bF, kF, gF⟩ := c_ckfix (w := w) T
  obtain ⟨fL, GL, bL, ⟨dL, rL, bL1⟩, kL, gL⟩ := c_ckl (w := w) T
  obtain ⟨_, clC, _⟩ := T.gk ("Carry", 49) (by decide)
  refine (FunD.ok (k := 4) F scI_Carry (fun vs H Q E h => ?_) (fun cdv A outer s H vs Q E hr h => ?_))
  · obtain ⟨p, dx, as, rfl, hl, _⟩ := h
    show as.length + 1 = 3
    rw [hl]
  · obtain ⟨p, dx, as, rfl, hl, hp, ao, c⟩ := h
    obtain ⟨v, u, rfl⟩ : ∃ v u, as = [v, u] := by
      match as, hl with
      | [v, u], _ => exact ⟨_, _, rfl⟩
    obtain ⟨dv, ov⟩ := ao v (by simp)
    obtain ⟨du, ou⟩ := ao u (by simp)
    refine ⟨_, pss_cons (ps_fld (pv 0) (pe_call (E := E) GF (hr.mono (by decide)) (by rfl) gF kF bF .nil (passes_call (takes_of rfl rfl rfl rfl) fun _ _ _ _ h => h) (pa_cons (pv 1) pa_nil)) rfl)
      (pss_one (ps_fld (pv 0) (pe_call (E := E) GL (hr.mono (by decide)) (by rfl) gL kL bL1 rL (passes_call (takes_of rfl rfl rfl rfl) fun _ _ _ _ h => h) (pa_cons (pv 2) pa_nil)) rfl)), ?_⟩
    have c : Om K H p (ga K "Carry") dx (thenE (ckFix v) (ckLine 1 u)) [("fix", v), ("line", u)] Q E := c
    refine ⟨_, rfl, ?_⟩
    try unfold tNil
    show spCk K ckFix [v] _ _ _
    refine ⟨v, dv, rfl, ov, om_step c (fun _ _ _ e => e) fun ev c H12 s12 => ?_⟩
    refine ⟨_, rfl, p, _, dx, _, rfl, s12 _ _ hp, clC, T.no ("Carry", "fix") (by decide), by show 0 < 1000; decide, ?_⟩
    have q1 : Same2 H (upd H12 p (.ins (ga K "Carry") dx [("fix", v)])) p := Same2.trans (Same.two s12 p) two_upd
    refine ⟨_, rfl, ?_⟩
    try unfold tNil
    show spCk2 K ckLine [u, .int 1] _ _ _
    refine ⟨u, du, 1, rfl, (ou.ins hp q1), om_last c q1 fun eu c H22 s22 => ?_⟩
    refine ⟨_, rfl, p, _, dx, _, rfl, s22 _ _ upd_same, clC, T.no ("Carry", "line") (by decide), by show 1 < 1000; decide, ?_⟩
    exact c _ (q1.trans (Same2.trans (Same.two s22 p) two_upd)) upd_same
theorem scI_Drop : FnScope ["self", "fix", "line"] ["self", "fix", "line"] (defScope (iSt 50)) := ⟨rfl, rfl, rfl, by decide +kernel, rfl, by decide +kernel, by decide +kernel⟩
theorem ok_Drop (T : KF P w K mg base) {fd : FuncData} (F : IniD K ("Drop", 50) fd) : FnOk P w K mg base (L2.CX P w) 5 (ma K (ga K "Drop") "__init__") fd ["self", "fix", "line"] (spMk K (ga K "Drop") 2 (oc2 fun v u => (thenE (ckFix v) (ckLine 1 u))) (fun as => match as with | [v, u] => [("fix", v), ("line", u)] | _ => [])) := by
  obtain ⟨fF, GF, bF, kF, gF⟩ := c_ckfix (w := w) T
  obtain ⟨fL, GL, bL, ⟨dL, rL, bL1⟩, kL, gL⟩ := c_ckl (w := w) T
  obtain ⟨_, clC, _⟩ := T.gk ("Drop", 50) (by decide)
  refine (FunD.ok (k := 4) F scI_Drop (fun vs H Q E h => ?_) (fun cdv A outer s H vs Q E hr h => ?_))
  · obtain ⟨p, dx, as, rfl, hl, _⟩ := h
    show as.length + 1 = 3
    rw [hl]
  · obtain ⟨p, dx, as, rfl, hl, hp, ao, c⟩ := h
    obtain ⟨v, u, rfl⟩ : ∃ v u, as = [v, u] := by
      match as, hl with
      | [v, u], _ => exact ⟨_, _, rfl⟩
    obtain ⟨dv, ov⟩ := ao v (by simp)
    obtain ⟨du, ou⟩ := ao u (by simp)
    refine ⟨_, pss_cons (ps_fld (pv 0) (pe_call (E := E) GF (hr.mono (by decide)) (by rfl) gF kF bF .nil (passes_call (takes_of rfl rfl rfl rfl) fun _ _ _ _ h => h) (pa_cons (pv 1) pa_nil)) rfl)
      (pss_one (ps_fld (pv 0) (pe_call (E := E) GL (hr.mono (by decide)) (by rfl) gL kL bL1 rL (passes_call (takes_of rfl rfl rfl rfl) fun _ _ _ _ h => h) (pa_cons (pv 2) pa_nil)) rfl)), ?_⟩
    have c : Om K H p (ga K "Drop") dx (thenE (ckFix v) (ckLine 1 u)) [("fix", v), ("line", u)] Q E := c
    refine ⟨_, rfl, ?_⟩
    try unfold tNil
    show spCk K ckFix [v] _ _ _
    refine ⟨v, dv, rfl, ov, om_step c (fun _ _ _ e => e) fun ev c H12 s12 => ?_⟩
    refine ⟨_, rfl, p, _, dx, _, rfl, s12 _ _ hp, clC, T.no ("Drop", "fix") (by decide), by show 0 < 1000; decide, ?_⟩
    have q1 : Same2 H (upd H12 p (.ins (ga K "Drop") dx [("fix", v)])) p := Same2.trans (Same.two s12 p) two_upd
    refine ⟨_, rfl, ?_⟩
    try unfold tNil
    show spCk2 K ckLine [u, .int 1] _ _ _
    refine ⟨u, du, 1, rfl, (ou.ins hp q1), om_last c q1 fun eu c H22 s22 => ?_⟩
    refine ⟨_, rfl, p, _, dx, _, rfl, s22 _ _ upd_same, clC, T.no ("Drop", "line") (by decide), by show 1 < 1000; decide, ?_⟩
    exact c _ (q1.trans (Same2.trans (Same.two s22 p) two_upd)) upd_same
theorem scI_Merge : FnScope ["self", "line", "upto"] ["self", "line", "upto"] (defScope (iSt 51)) := ⟨rfl, rfl, rfl, by decide +kernel, rfl, by decide +kernel, by decide +kernel⟩
theorem ok_Merge (T : KF P w K mg base) {fd : FuncData} (F : IniD K ("Merge", 51) fd) : FnOk P w K mg base (L2.CX P w) 5 (ma K (ga K "Merge") "__init__") fd ["self", "line", "upto"] (spMk K (ga K "Merge") 2 (oc2 fun v u => (thenE (ckLine 1 v) (ckUp u))) (fun as => match as with | [v, u] => [("line", v), ("upto", u)] | _ => [])) := by
  obtain ⟨fF, GF, bF, kF, gF⟩ := c_ckfix (w := w) T
  obtain ⟨fL, GL, bL, ⟨dL, rL, bL1⟩, kL, gL⟩ := c_ckl (w := w) T
  obtain ⟨_, clC, _⟩ := T.gk ("Merge", 51) (by decide)
  refine (FunD.ok (k := 4) F scI_Merge (fun vs H Q E h => ?_) (fun cdv A outer s H vs Q E hr h => ?_))
  · obtain ⟨p, dx, as, rfl, hl, _⟩ := h
    show as.length + 1 = 3
    rw [hl]
  · obtain ⟨p, dx, as, rfl, hl, hp, ao, c⟩ := h
    obtain ⟨v, u, rfl⟩ : ∃ v u, as = [v, u] := by
      match as, hl with
      | [v, u], _ => exact ⟨_, _, rfl⟩
    obtain ⟨dv, ov⟩ := ao v (by simp)
    obtain ⟨du, ou⟩ := ao u (by simp)
    refine ⟨_, pss_cons (ps_fld (pv 0) (pe_call (E := E) GL (hr.mono (by decide)) (by rfl) gL kL bL1 rL (passes_call (takes_of rfl rfl rfl rfl) fun _ _ _ _ h => h) (pa_cons (pv 1) pa_nil)) rfl)
      (pss_one (ps_fld (pv 0) (pe_ifExp (pt_cmp (pc_isN (pv 2))) pe_non (pe_call (E := E) GF (hr.mono (by decide)) (by rfl) gF kF bF .nil (passes_call (takes_of rfl rfl rfl rfl) fun _ _ _ _ h => h) (pa_cons (pv 2) pa_nil))) rfl)), ?_⟩
    have c : Om K H p (ga K "Merge") dx (thenE (ckLine 1 v) (ckUp u)) [("line", v), ("upto", u)] Q E := c
    refine ⟨_, rfl, ?_⟩
    try unfold tNil
    show spCk2 K ckLine [v, .int 1] _ _ _
    refine ⟨v, dv, 1, rfl, ov, om_step c (fun _ _ _ e => e) fun ev c H12 s12 => ?_⟩
    refine ⟨_, rfl, p, _, dx, _, rfl, s12 _ _ hp, clC, T.no ("Merge", "line") (by decide), by show 0 < 1000; decide, ?_⟩
    have q1 : Same2 H (upd H12 p (.ins (ga K "Merge") dx [("line", v)])) p := Same2.trans (Same.two s12 p) two_upd
    refine ⟨_, rfl, _, rfl, ?_⟩
    by_cases eu : u = .non
    · refine if_posB (decide_eq_true eu) ?_
      unfold ckUp at c
      rw [if_pos eu] at c
      refine ⟨_, rfl, p, _, dx, _, rfl, upd_same, clC, T.no ("Merge", "upto") (by decide), by show 1 < 1000; decide, ?_⟩
      exact c _ (q1.trans two_upd) (by rw [upd_same, eu]; rfl)
    · refine if_negB (decide_eq_false eu) ?_
      unfold ckUp at c
      rw [if_neg eu] at c
      refine ⟨_, rfl, ?_⟩
      try unfold tNil
      show spCk K ckFix [u] _ _ _
      refine ⟨u, du, rfl, ou.ins hp q1, om_last c q1 fun eu c H22 s22 => ?_⟩
      refine ⟨_, rfl, p, _, dx, _, rfl, s22 _ _ upd_same, clC, T.no ("Merge", "upto") (by decide), by show 1 < 1000; decide, ?_⟩
      exact c _ (q1.trans (Same2.trans (Same.two s22 p) two_upd)) upd_same
theorem scI_End : FnScope ["self", "line"] ["self", "line"] (defScope (iSt 52)) := ⟨rfl, rfl, rfl, by decide +kernel, rfl, by decide +kernel, by decide +kernel⟩
theorem ok_End (T : KF P w K mg base) {fd : FuncData} (F : IniD K ("End", 52) fd) : FnOk P w K mg base (L2.CX P w) 5 (ma K (ga K "End") "__init__") fd ["self", "line"] (spMk K (ga K "End") 1 (oc1 fun v => (ckLine 1 v)) (fun as => match as with | [v] => [("line", v)] | _ => [])) := by
  obtain ⟨fL, GL, bL, ⟨dL, rL, bL1⟩, kL, gL⟩ := c_ckl (w := w) T
  obtain ⟨_, clC, _⟩ := T.gk ("End", 52) (by decide)
  refine (FunD.ok (k := 4) F scI_End (fun vs H Q E h => ?_) (fun cdv A outer s H vs Q E hr h => ?_))
  · obtain ⟨p, dx, as, rfl, hl, _⟩ := h
    show as.length + 1 = 2
    rw [hl]
  · obtain ⟨p, dx, as, rfl, hl, hp, ao, c⟩ := h
    obtain ⟨v, rfl⟩ : ∃ v, as = [v] := by
      match as, hl with
      | [v], _ => exact ⟨_, rfl⟩
    obtain ⟨dv, ov⟩ := ao v (by simp)
    refine ⟨_, pss_one (ps_fld (pv 0) (pe_call (E := E) GL (hr.mono (by decide)) (by rfl) gL kL bL1 rL (passes_call (takes_of rfl rfl rfl rfl) fun _ _ _ _ h => h) (pa_cons (pv 1) pa_nil)) rfl), ?_⟩
    have c : Om K H p (ga K "End") dx (ckLine 1 v) [("line", v)] Q E := c
    refine ⟨_, rfl, ?_⟩
    try unfold tNil
    show spCk2 K ckLine [v, .int 1] _ _ _
    refine ⟨v, dv, 1, rfl, ov, om_last c (fun _ _ _ e => e) fun ev c H12 s12 => ?_⟩
    refine ⟨_, rfl, p, _, dx, _, rfl, s12 _ _ hp, clC, T.no ("End", "line") (by decide), by show 0 < 1000; decide, ?_⟩
    exact c _ (Same2.trans (Same.two s12 p) two_upd) upd_same
theorem scI_Offer : FnScope ["self", "line"] ["self", "line"] (defScope (iSt 53)) := ⟨rfl, rfl, rfl, by decide +kernel, rfl, by decide +kernel, by decide +kernel⟩
theorem ok_Offer (T : KF P w K mg base) {fd : FuncData} (F : IniD K ("Offer", 53) fd) : FnOk P w K mg base (L2.CX P w) 5 (ma K (ga K "Offer") "__init__") fd ["self", "line"] (spMk K (ga K "Offer") 1 (oc1 fun v => (ckLine 1 v)) (fun as => match as with | [v] => [("line", v)] | _ => [])) := by
  obtain ⟨fL, GL, bL, ⟨dL, rL, bL1⟩, kL, gL⟩ := c_ckl (w := w) T
  obtain ⟨_, clC, _⟩ := T.gk ("Offer", 53) (by decide)
  refine (FunD.ok (k := 4) F scI_Offer (fun vs H Q E h => ?_) (fun cdv A outer s H vs Q E hr h => ?_))
  · obtain ⟨p, dx, as, rfl, hl, _⟩ := h
    show as.length + 1 = 2
    rw [hl]
  · obtain ⟨p, dx, as, rfl, hl, hp, ao, c⟩ := h
    obtain ⟨v, rfl⟩ : ∃ v, as = [v] := by
      match as, hl with
      | [v], _ => exact ⟨_, rfl⟩
    obtain ⟨dv, ov⟩ := ao v (by simp)
    refine ⟨_, pss_one (ps_fld (pv 0) (pe_call (E := E) GL (hr.mono (by decide)) (by rfl) gL kL bL1 rL (passes_call (takes_of rfl rfl rfl rfl) fun _ _ _ _ h => h) (pa_cons (pv 1) pa_nil)) rfl), ?_⟩
    have c : Om K H p (ga K "Offer") dx (ckLine 1 v) [("line", v)] Q E := c
    refine ⟨_, rfl, ?_⟩
    try unfold tNil
    show spCk2 K ckLine [v, .int 1] _ _ _
    refine ⟨v, dv, 1, rfl, ov, om_last c (fun _ _ _ e => e) fun ev c H12 s12 => ?_⟩
    refine ⟨_, rfl, p, _, dx, _, rfl, s12 _ _ hp, clC, T.no ("Offer", "line") (by decide), by show 0 < 1000; decide, ?_⟩
    exact c _ (Same2.trans (Same.two s12 p) two_upd) upd_same
theorem scI_Live : FnScope ["self", "line"] ["self", "line"] (defScope (iSt 54)) := ⟨rfl, rfl, rfl, by decide +kernel, rfl, by decide +kernel, by decide +kernel⟩
theorem ok_Live (T : KF P w K mg base) {fd : FuncData} (F : IniD K ("Live", 54) fd) : FnOk P w K mg base (L2.CX P w) 5 (ma K (ga K "Live") "__init__") fd ["self", "line"] (spMk K (ga K "Live") 1 (oc1 fun v => (ckLine 1 v)) (fun as => match as with | [v] => [("line", v)] | _ => [])) := by
  obtain ⟨fL, GL, bL, ⟨dL, rL, bL1⟩, kL, gL⟩ := c_ckl (w := w) T
  obtain ⟨_, clC, _⟩ := T.gk ("Live", 54) (by decide)
  refine (FunD.ok (k := 4) F scI_Live (fun vs H Q E h => ?_) (fun cdv A outer s H vs Q E hr h => ?_))
  · obtain ⟨p, dx, as, rfl, hl, _⟩ := h
    show as.length + 1 = 2
    rw [hl]
  · obtain ⟨p, dx, as, rfl, hl, hp, ao, c⟩ := h
    obtain ⟨v, rfl⟩ : ∃ v, as = [v] := by
      match as, hl with
      | [v], _ => exact ⟨_, rfl⟩
    obtain ⟨dv, ov⟩ := ao v (by simp)
    refine ⟨_, pss_one (ps_fld (pv 0) (pe_call (E := E) GL (hr.mono (by decide)) (by rfl) gL kL bL1 rL (passes_call (takes_of rfl rfl rfl rfl) fun _ _ _ _ h => h) (pa_cons (pv 1) pa_nil)) rfl), ?_⟩
    have c : Om K H p (ga K "Live") dx (ckLine 1 v) [("line", v)] Q E := c
    refine ⟨_, rfl, ?_⟩
    try unfold tNil
    show spCk2 K ckLine [v, .int 1] _ _ _
    refine ⟨v, dv, 1, rfl, ov, om_last c (fun _ _ _ e => e) fun ev c H12 s12 => ?_⟩
    refine ⟨_, rfl, p, _, dx, _, rfl, s12 _ _ hp, clC, T.no ("Live", "line") (by decide), by show 0 < 1000; decide, ?_⟩
    exact c _ (Same2.trans (Same.two s12 p) two_upd) upd_same
theorem scI_Down : FnScope ["self", "line"] ["self", "line"] (defScope (iSt 55)) := ⟨rfl, rfl, rfl, by decide +kernel, rfl, by decide +kernel, by decide +kernel⟩
theorem ok_Down (T : KF P w K mg base) {fd : FuncData} (F : IniD K ("Down", 55) fd) : FnOk P w K mg base (L2.CX P w) 5 (ma K (ga K "Down") "__init__") fd ["self", "line"] (spMk K (ga K "Down") 1 (oc1 fun v => (ckLine 1 v)) (fun as => match as with | [v] => [("line", v)] | _ => [])) := by
  obtain ⟨fL, GL, bL, ⟨dL, rL, bL1⟩, kL, gL⟩ := c_ckl (w := w) T
  obtain ⟨_, clC, _⟩ := T.gk ("Down", 55) (by decide)
  refine (FunD.ok (k := 4) F scI_Down (fun vs H Q E h => ?_) (fun cdv A outer s H vs Q E hr h => ?_))
  · obtain ⟨p, dx, as, rfl, hl, _⟩ := h
    show as.length + 1 = 2
    rw [hl]
  · obtain ⟨p, dx, as, rfl, hl, hp, ao, c⟩ := h
    obtain ⟨v, rfl⟩ : ∃ v, as = [v] := by
      match as, hl with
      | [v], _ => exact ⟨_, rfl⟩
    obtain ⟨dv, ov⟩ := ao v (by simp)
    refine ⟨_, pss_one (ps_fld (pv 0) (pe_call (E := E) GL (hr.mono (by decide)) (by rfl) gL kL bL1 rL (passes_call (takes_of rfl rfl rfl rfl) fun _ _ _ _ h => h) (pa_cons (pv 1) pa_nil)) rfl), ?_⟩
    have c : Om K H p (ga K "Down") dx (ckLine 1 v) [("line", v)] Q E := c
    refine ⟨_, rfl, ?_⟩
    try unfold tNil
    show spCk2 K ckLine [v, .int 1] _ _ _
    refine ⟨v, dv, 1, rfl, ov, om_last c (fun _ _ _ e => e) fun ev c H12 s12 => ?_⟩
    refine ⟨_, rfl, p, _, dx, _, rfl, s12 _ _ hp, clC, T.no ("Down", "line") (by decide), by show 0 < 1000; decide, ?_⟩
    exact c _ (Same2.trans (Same.two s12 p) two_upd) upd_same
theorem scI_Day : FnScope ["self", "line"] ["self", "line"] (defScope (iSt 56)) := ⟨rfl, rfl, rfl, by decide +kernel, rfl, by decide +kernel, by decide +kernel⟩
theorem ok_Day (T : KF P w K mg base) {fd : FuncData} (F : IniD K ("Day", 56) fd) : FnOk P w K mg base (L2.CX P w) 5 (ma K (ga K "Day") "__init__") fd ["self", "line"] (spMk K (ga K "Day") 1 (oc1 fun v => (ckLine 1 v)) (fun as => match as with | [v] => [("line", v)] | _ => [])) := by
  obtain ⟨fL, GL, bL, ⟨dL, rL, bL1⟩, kL, gL⟩ := c_ckl (w := w) T
  obtain ⟨_, clC, _⟩ := T.gk ("Day", 56) (by decide)
  refine (FunD.ok (k := 4) F scI_Day (fun vs H Q E h => ?_) (fun cdv A outer s H vs Q E hr h => ?_))
  · obtain ⟨p, dx, as, rfl, hl, _⟩ := h
    show as.length + 1 = 2
    rw [hl]
  · obtain ⟨p, dx, as, rfl, hl, hp, ao, c⟩ := h
    obtain ⟨v, rfl⟩ : ∃ v, as = [v] := by
      match as, hl with
      | [v], _ => exact ⟨_, rfl⟩
    obtain ⟨dv, ov⟩ := ao v (by simp)
    refine ⟨_, pss_one (ps_fld (pv 0) (pe_call (E := E) GL (hr.mono (by decide)) (by rfl) gL kL bL1 rL (passes_call (takes_of rfl rfl rfl rfl) fun _ _ _ _ h => h) (pa_cons (pv 1) pa_nil)) rfl), ?_⟩
    have c : Om K H p (ga K "Day") dx (ckLine 1 v) [("line", v)] Q E := c
    refine ⟨_, rfl, ?_⟩
    try unfold tNil
    show spCk2 K ckLine [v, .int 1] _ _ _
    refine ⟨v, dv, 1, rfl, ov, om_last c (fun _ _ _ e => e) fun ev c H12 s12 => ?_⟩
    refine ⟨_, rfl, p, _, dx, _, rfl, s12 _ _ hp, clC, T.no ("Day", "line") (by decide), by show 0 < 1000; decide, ?_⟩
    exact c _ (Same2.trans (Same.two s12 p) two_upd) upd_same
theorem scI_Try : FnScope ["self", "line", "mate"] ["self", "line", "mate"] (defScope (iSt 57)) := ⟨rfl, rfl, rfl, by decide +kernel, rfl, by decide +kernel, by decide +kernel⟩
theorem ok_Try (T : KF P w K mg base) {fd : FuncData} (F : IniD K ("Try", 57) fd) : FnOk P w K mg base (L2.CX P w) 5 (ma K (ga K "Try") "__init__") fd ["self", "line", "mate"] (spMk K (ga K "Try") 2 (oc2 fun v u => (thenE (ckLine 1 v) (ckLine (intV v + 1) u))) (fun as => match as with | [v, u] => [("line", v), ("mate", u)] | _ => [])) := by
  obtain ⟨fL, GL, bL, ⟨dL, rL, bL1⟩, kL, gL⟩ := c_ckl (w := w) T
  obtain ⟨_, clC, _⟩ := T.gk ("Try", 57) (by decide)
  refine (FunD.ok (k := 4) F scI_Try (fun vs H Q E h => ?_) (fun cdv A outer s H vs Q E hr h => ?_))
  · obtain ⟨p, dx, as, rfl, hl, _⟩ := h
    show as.length + 1 = 3
    rw [hl]
  · obtain ⟨p, dx, as, rfl, hl, hp, ao, c⟩ := h
    obtain ⟨v, u, rfl⟩ : ∃ v u, as = [v, u] := by
      match as, hl with
      | [v, u], _ => exact ⟨_, _, rfl⟩
    obtain ⟨dv, ov⟩ := ao v (by simp)
    obtain ⟨du, ou⟩ := ao u (by simp)
    refine ⟨_, pss_cons (ps_fld (pv 0) (pe_call (E := E) GL (hr.mono (by decide)) (by rfl) gL kL bL1 rL (passes_call (takes_of rfl rfl rfl rfl) fun _ _ _ _ h => h) (pa_cons (pv 1) pa_nil)) rfl)
      (pss_one (ps_fld (pv 0) (pe_call (E := E) GL (hr.mono (by decide)) (by rfl) gL kL bL .nil (passes_call (takes_of rfl rfl rfl rfl) fun _ _ _ _ h => h) (pa_cons (pv 2) (pa_cons (pe_op op_add (pv 1) pe_int) pa_nil))) rfl)), ?_⟩
    have c : Om K H p (ga K "Try") dx (thenE (ckLine 1 v) (ckLine (intV v + 1) u)) [("line", v), ("mate", u)] Q E := c
    refine ⟨_, rfl, ?_⟩
    try unfold tNil
    show spCk2 K ckLine [v, .int 1] _ _ _
    refine ⟨v, dv, 1, rfl, ov, om_step c (fun _ _ _ e => e) fun ev c H12 s12 => ?_⟩
    refine ⟨_, rfl, p, _, dx, _, rfl, s12 _ _ hp, clC, T.no ("Try", "line") (by decide), by show 0 < 1000; decide, ?_⟩
    have q1 : Same2 H (upd H12 p (.ins (ga K "Try") dx [("line", v)])) p := Same2.trans (Same.two s12 p) two_upd
    refine ⟨_, rfl, _, rfl, intV v, 1, ck_line ev, rfl, ?_⟩
    try unfold tNil
    show spCk2 K ckLine [u, .int (intV v + 1)] _ _ _
    refine ⟨u, du, _, rfl, (ou.ins hp q1), om_last c q1 fun eu c H22 s22 => ?_⟩
    refine ⟨_, rfl, p, _, dx, _, rfl, s22 _ _ upd_same, clC, T.no ("Try", "mate") (by decide), by show 1 < 1000; decide, ?_⟩
    exact c _ (q1.trans (Same2.trans (Same.two s22 p) two_upd)) upd_same
theorem scI_Probe : FnScope ["self", "line", "mate"] ["self", "line", "mate"] (defScope (iSt 58)) := ⟨rfl, rfl, rfl, by decide +kernel, rfl, by decide +kernel, by decide +kernel⟩
theorem ok_Probe (T : KF P w K mg base) {fd : FuncData} (F : IniD K ("Probe", 58) fd) : FnOk P w K mg base (L2.CX P w) 5 (ma K (ga K "Probe") "__init__") fd ["self", "line", "mate"] (spMk K (ga K "Probe") 2 (oc2 fun v u => (thenE (ckLine 1 v) (ckMate (intV v) u))) (fun as => match as with | [v, u] => [("line", v), ("mate", u)] | _ => [])) := by
  obtain ⟨fL, GL, bL, ⟨dL, rL, bL1⟩, kL, gL⟩ := c_ckl (w := w) T
  obtain ⟨fM, GM, bM, kM, gM⟩ := c_mate (w := w) T
  obtain ⟨_, clC, _⟩ := T.gk ("Probe", 58) (by decide)
  refine (FunD.ok (k := 4) F scI_Probe (fun vs H Q E h => ?_) (fun cdv A outer s H vs Q E hr h => ?_))
  · obtain ⟨p, dx, as, rfl, hl, _⟩ := h
    show as.length + 1 = 3
    rw [hl]
  · obtain ⟨p, dx, as, rfl, hl, hp, ao, c⟩ := h
    obtain ⟨v, u, rfl⟩ : ∃ v u, as = [v, u] := by
      match as, hl with
      | [v, u], _ => exact ⟨_, _, rfl⟩
    obtain ⟨dv, ov⟩ := ao v (by simp)
    obtain ⟨du, ou⟩ := ao u (by simp)
    refine ⟨_, pss_cons (ps_fld (pv 0) (pe_call (E := E) GL (hr.mono (by decide)) (by rfl) gL kL bL1 rL (passes_call (takes_of rfl rfl rfl rfl) fun _ _ _ _ h => h) (pa_cons (pv 1) pa_nil)) rfl)
      (pss_one (ps_fld (pv 0) (pe_call (E := E) GM (hr.mono (by decide)) (by rfl) gM kM bM .nil (passes_call (takes_of rfl rfl rfl rfl) fun _ _ _ _ h => h) (pa_cons (pv 2) (pa_cons (pv 1) pa_nil))) rfl)), ?_⟩
    have c : Om K H p (ga K "Probe") dx (thenE (ckLine 1 v) (ckMate (intV v) u)) [("line", v), ("mate", u)] Q E := c
    refine ⟨_, rfl, ?_⟩
    try unfold tNil
    show spCk2 K ckLine [v, .int 1] _ _ _
    refine ⟨v, dv, 1, rfl, ov, om_step c (fun _ _ _ e => e) fun ev c H12 s12 => ?_⟩
    refine ⟨_, rfl, p, _, dx, _, rfl, s12 _ _ hp, clC, T.no ("Probe", "line") (by decide), by show 0 < 1000; decide, ?_⟩
    have q1 : Same2 H (upd H12 p (.ins (ga K "Probe") dx [("line", v)])) p := Same2.trans (Same.two s12 p) two_upd
    refine ⟨_, rfl, _, rfl, ?_⟩
    try unfold tNil
    show spMate K [u, v] _ _ _
    refine ⟨u, du, intV v, by rw [← ck_line ev], (ou.ins hp q1), om_last c q1 fun eu c H22 s22 => ?_⟩
    refine ⟨_, rfl, p, _, dx, _, rfl, s22 _ _ upd_same, clC, T.no ("Probe", "mate") (by decide), by show 1 < 1000; decide, ?_⟩
    exact c _ (q1.trans (Same2.trans (Same.two s22 p) two_upd)) upd_same
theorem scI_Meet : FnScope ["self", "line", "mate"] ["self", "line", "mate"] (defScope (iSt 59)) := ⟨rfl, rfl, rfl, by decide +kernel, rfl, by decide +kernel, by decide +kernel⟩
theorem ok_Meet (T : KF P w K mg base) {fd : FuncData} (F : IniD K ("Meet", 59) fd) : FnOk P w K mg base (L2.CX P w) 5 (ma K (ga K "Meet") "__init__") fd ["self", "line", "mate"] (spMk K (ga K "Meet") 2 (oc2 fun v u => (thenE (ckLine 1 v) (ckLine (intV v + 1) u))) (fun as => match as with | [v, u] => [("line", v), ("mate", u)] | _ => [])) := by
  obtain ⟨fL, GL, bL, ⟨dL, rL, bL1⟩, kL, gL⟩ := c_ckl (w := w) T
  obtain ⟨_, clC, _⟩ := T.gk ("Meet", 59) (by decide)
  refine (FunD.ok (k := 4) F scI_Meet (fun vs H Q E h => ?_) (fun cdv A outer s H vs Q E hr h => ?_))
  · obtain ⟨p, dx, as, rfl, hl, _⟩ := h
    show as.length + 1 = 3
    rw [hl]
  · obtain ⟨p, dx, as, rfl, hl, hp, ao, c⟩ := h
    obtain ⟨v, u, rfl⟩ : ∃ v u, as = [v, u] := by
      match as, hl with
      | [v, u], _ => exact ⟨_, _, rfl⟩
    obtain ⟨dv, ov⟩ := ao v (by simp)
    obtain ⟨du, ou⟩ := ao u (by simp)
    refine ⟨_, pss_cons (ps_fld (pv 0) (pe_call (E := E) GL (hr.mono (by decide)) (by rfl) gL kL bL1 rL (passes_call (takes_of rfl rfl rfl rfl) fun _ _ _ _ h => h) (pa_cons (pv 1) pa_nil)) rfl)
      (pss_one (ps_fld (pv 0) (pe_call (E := E) GL (hr.mono (by decide)) (by rfl) gL kL bL .nil (passes_call (takes_of rfl rfl rfl rfl) fun _ _ _ _ h => h) (pa_cons (pv 2) (pa_cons (pe_op op_add (pv 1) pe_int) pa_nil))) rfl)), ?_⟩
    have c : Om K H p (ga K "Meet") dx (thenE (ckLine 1 v) (ckLine (intV v + 1) u)) [("line", v), ("mate", u)] Q E := c
    refine ⟨_, rfl, ?_⟩
    try unfold tNil
    show spCk2 K ckLine [v, .int 1] _ _ _
    refine ⟨v, dv, 1, rfl, ov, om_step c (fun _ _ _ e => e) fun ev c H12 s12 => ?_⟩
    refine ⟨_, rfl, p, _, dx, _, rfl, s12 _ _ hp, clC, T.no ("Meet", "line") (by decide), by show 0 < 1000; decide, ?_⟩
    have q1 : Same2 H (upd H12 p (.ins (ga K "Meet") dx [("line", v)])) p := Same2.trans (Same.two s12 p) two_upd
    refine ⟨_, rfl, _, rfl, intV v, 1, ck_line ev, rfl, ?_⟩
    try unfold tNil
    show spCk2 K ckLine [u, .int (intV v + 1)] _ _ _
    refine ⟨u, du, _, rfl, (ou.ins hp q1), om_last c q1 fun eu c H22 s22 => ?_⟩
    refine ⟨_, rfl, p, _, dx, _, rfl, s22 _ _ upd_same, clC, T.no ("Meet", "mate") (by decide), by show 1 < 1000; decide, ?_⟩
    exact c _ (q1.trans (Same2.trans (Same.two s22 p) two_upd)) upd_same
theorem scI_Redo : FnScope ["self", "day"] ["self", "day"] (defScope (iSt 62)) := ⟨rfl, rfl, rfl, by decide +kernel, rfl, by decide +kernel, by decide +kernel⟩
theorem ok_Redo (T : KF P w K mg base) {fd : FuncData} (F : IniD K ("Redo", 62) fd) : FnOk P w K mg base (L2.CX P w) 5 (ma K (ga K "Redo") "__init__") fd ["self", "day"] (spMk K (ga K "Redo") 1 (oc1 fun v => (ckDay 1 v)) (fun as => match as with | [v] => [("day", v)] | _ => [])) := by
  obtain ⟨fD, GD, bD, ⟨dD, rD, bD1⟩, kD, gD⟩ := c_ckd (w := w) T
  obtain ⟨_, clC, _⟩ := T.gk ("Redo", 62) (by decide)
  refine (FunD.ok (k := 4) F scI_Redo (fun vs H Q E h => ?_) (fun cdv A outer s H vs Q E hr h => ?_))
  · obtain ⟨p, dx, as, rfl, hl, _⟩ := h
    show as.length + 1 = 2
    rw [hl]
  · obtain ⟨p, dx, as, rfl, hl, hp, ao, c⟩ := h
    obtain ⟨v, rfl⟩ : ∃ v, as = [v] := by
      match as, hl with
      | [v], _ => exact ⟨_, rfl⟩
    obtain ⟨dv, ov⟩ := ao v (by simp)
    refine ⟨_, pss_one (ps_fld (pv 0) (pe_call (E := E) GD (hr.mono (by decide)) (by rfl) gD kD bD1 rD (passes_call (takes_of rfl rfl rfl rfl) fun _ _ _ _ h => h) (pa_cons (pv 1) pa_nil)) rfl), ?_⟩
    have c : Om K H p (ga K "Redo") dx (ckDay 1 v) [("day", v)] Q E := c
    refine ⟨_, rfl, ?_⟩
    try unfold tNil
    show spCk2 K ckDay [v, .int 1] _ _ _
    refine ⟨v, dv, 1, rfl, ov, om_last c (fun _ _ _ e => e) fun ev c H12 s12 => ?_⟩
    refine ⟨_, rfl, p, _, dx, _, rfl, s12 _ _ hp, clC, T.no ("Redo", "day") (by decide), by show 0 < 1000; decide, ?_⟩
    exact c _ (Same2.trans (Same.two s12 p) two_upd) upd_same
theorem scI_Shut : FnScope ["self", "day"] ["self", "day"] (defScope (iSt 64)) := ⟨rfl, rfl, rfl, by decide +kernel, rfl, by decide +kernel, by decide +kernel⟩
theorem ok_Shut (T : KF P w K mg base) {fd : FuncData} (F : IniD K ("Shut", 64) fd) : FnOk P w K mg base (L2.CX P w) 5 (ma K (ga K "Shut") "__init__") fd ["self", "day"] (spMk K (ga K "Shut") 1 (oc1 fun v => (ckDay 1 v)) (fun as => match as with | [v] => [("day", v)] | _ => [])) := by
  obtain ⟨fD, GD, bD, ⟨dD, rD, bD1⟩, kD, gD⟩ := c_ckd (w := w) T
  obtain ⟨_, clC, _⟩ := T.gk ("Shut", 64) (by decide)
  refine (FunD.ok (k := 4) F scI_Shut (fun vs H Q E h => ?_) (fun cdv A outer s H vs Q E hr h => ?_))
  · obtain ⟨p, dx, as, rfl, hl, _⟩ := h
    show as.length + 1 = 2
    rw [hl]
  · obtain ⟨p, dx, as, rfl, hl, hp, ao, c⟩ := h
    obtain ⟨v, rfl⟩ : ∃ v, as = [v] := by
      match as, hl with
      | [v], _ => exact ⟨_, rfl⟩
    obtain ⟨dv, ov⟩ := ao v (by simp)
    refine ⟨_, pss_one (ps_fld (pv 0) (pe_call (E := E) GD (hr.mono (by decide)) (by rfl) gD kD bD1 rD (passes_call (takes_of rfl rfl rfl rfl) fun _ _ _ _ h => h) (pa_cons (pv 1) pa_nil)) rfl), ?_⟩
    have c : Om K H p (ga K "Shut") dx (ckDay 1 v) [("day", v)] Q E := c
    refine ⟨_, rfl, ?_⟩
    try unfold tNil
    show spCk2 K ckDay [v, .int 1] _ _ _
    refine ⟨v, dv, 1, rfl, ov, om_last c (fun _ _ _ e => e) fun ev c H12 s12 => ?_⟩
    refine ⟨_, rfl, p, _, dx, _, rfl, s12 _ _ hp, clC, T.no ("Shut", "day") (by decide), by show 0 < 1000; decide, ?_⟩
    exact c _ (Same2.trans (Same.two s12 p) two_upd) upd_same
theorem scI_Rise : FnScope ["self", "upto", "lines"] ["self", "upto", "lines"] (defScope (iSt 60)) := ⟨rfl, rfl, rfl, by decide +kernel, rfl, by decide +kernel, by decide +kernel⟩
theorem ok_Rise (T : KF P w K mg base) {fd : FuncData} (F : IniD K ("Rise", 60) fd) : Sk.FnSK P w K mg base (L2.CX P w) 5 (ma K (ga K "Rise") "__init__") "upto" (Sk.spSK (spMkS K (ga K "Rise") ocLines "lines" "upto")) := by
  obtain ⟨fC, GC, bC, kC, gC⟩ := c_lines (w := w) T
  obtain ⟨fS, GS, bS, kS, gS⟩ := c_lstop (w := w) T
  obtain ⟨_, clC, _⟩ := T.gk ("Rise", 60) (by decide)
  obtain ⟨oc, od, dV, kV, doc, pm, an, cdv, ct, osl, rfl, lk, hcd, hD, hK⟩ := F.ex
  rcases hD with ⟨_, rfl⟩ | ⟨e, _⟩
  case inr => exact absurd rfl e
  rcases hK with e | ⟨D, rfl, hq⟩
  case inl => exact nomatch e
  obtain ⟨uv, hu, ru⟩ := hq ("upto", .non) (by show _ ∈ [(("upto" : Str), V.non)]; exact List.mem_singleton.mpr rfl)
  have ru : uv = Value.none := ru
  subst ru
  refine Sk.fn_sk (p1 := "self") (kn := "upto") (pv := "lines") lk hcd scI_Rise StX.cxUp (fun a rest u => ?b1) ⟨D, hu, fun a rest => ?b0⟩ fun A outer s H vs Q E hr h => ?_
  case b1 => cases rest <;> rfl
  case b0 => cases rest <;> exact ⟨_, _, _, _, _, _, rfl, rfl, rfl⟩
  obtain ⟨p, dx, u, a, xs, rfl, hp, ha, ⟨du, ou⟩, ao, c⟩ := h
  refine ⟨_, pss_cons (ps_fld (pv 0) (pe_call (E := E) GC (hr.mono (by decide)) (by rfl) gC kC bC .nil (passes_call (takes_of rfl rfl rfl rfl) fun _ _ _ _ h => h) (pa_cons (pv 2) pa_nil)) rfl)
    (pss_one (ps_fld (pv 0) (pe_call (E := E) GS (hr.mono (by decide)) (by rfl) gS kS bS .nil (passes_call (takes_of rfl rfl rfl rfl) fun _ _ _ _ h => h) (pa_cons (pv 1) (pa_cons (pv 2) pa_nil))) rfl)), ?_⟩
  unfold ocLines at c
  refine ⟨_, rfl, ?_⟩
  try unfold tNil
  show spRise K "NoLine" "line" 6 [.ref a] _ _ _
  refine ⟨a, xs, rfl, ha, ao, om_step c (fun _ _ _ e => e) fun er c H1 s1 => ?_⟩
  refine ⟨_, rfl, p, _, dx, _, rfl, s1 _ _ hp, clC, T.no ("Rise", "lines") (by decide), by show 0 < 1000; decide, ?_⟩
  have q1 : Same2 H (upd H1 p (.ins (ga K "Rise") dx [("lines", .ref a)])) p := Same2.trans (Same.two s1 p) two_upd
  obtain ⟨ns, rfl, hne⟩ := rise_ints er
  have en : (ns.map V.int).map intV = ns := by rw [List.map_map]; exact List.map_id' ns
  rw [en] at c
  refine ⟨_, rfl, _, rfl, ?_⟩
  try unfold tNil
  show spStop K "NoLine" "line" [u, .ref a] _ _ _
  refine ⟨u, du, a, ns, rfl, ou.ins hp q1, q1 _ _ (fun e => by rw [e, hp] at ha; cases ha) ha, hne, om_last c q1 fun es c H2 s2 => ?_⟩
  refine ⟨_, rfl, p, _, dx, _, rfl, s2 _ _ upd_same, clC, T.no ("Rise", "upto") (by decide), by show 1 < 1000; decide, ?_⟩
  exact c _ (q1.trans (Same2.trans (Same.two s2 p) two_upd)) upd_same
theorem scI_Night : FnScope ["self", "upto", "lines"] ["self", "upto", "lines"] (defScope (iSt 61)) := ⟨rfl, rfl, rfl, by decide +kernel, rfl, by decide +kernel, by decide +kernel⟩
theorem ok_Night (T : KF P w K mg base) {fd : FuncData} (F : IniD K ("Night", 61) fd) : Sk.FnSK P w K mg base (L2.CX P w) 5 (ma K (ga K "Night") "__init__") "upto" (Sk.spSK (spMkS K (ga K "Night") ocLines "lines" "upto")) := by
  obtain ⟨fC, GC, bC, kC, gC⟩ := c_lines (w := w) T
  obtain ⟨fS, GS, bS, kS, gS⟩ := c_lstop (w := w) T
  obtain ⟨_, clC, _⟩ := T.gk ("Night", 61) (by decide)
  obtain ⟨oc, od, dV, kV, doc, pm, an, cdv, ct, osl, rfl, lk, hcd, hD, hK⟩ := F.ex
  rcases hD with ⟨_, rfl⟩ | ⟨e, _⟩
  case inr => exact absurd rfl e
  rcases hK with e | ⟨D, rfl, hq⟩
  case inl => exact nomatch e
  obtain ⟨uv, hu, ru⟩ := hq ("upto", .non) (by show _ ∈ [(("upto" : Str), V.non)]; exact List.mem_singleton.mpr rfl)
  have ru : uv = Value.none := ru
  subst ru
  refine Sk.fn_sk (p1 := "self") (kn := "upto") (pv := "lines") lk hcd scI_Night StX.cxUp (fun a rest u => ?b1) ⟨D, hu, fun a rest => ?b0⟩ fun A outer s H vs Q E hr h => ?_
  case b1 => cases rest <;> rfl
  case b0 => cases rest <;> exact ⟨_, _, _, _, _, _, rfl, rfl, rfl⟩
  obtain ⟨p, dx, u, a, xs, rfl, hp, ha, ⟨du, ou⟩, ao, c⟩ := h
  refine ⟨_, pss_cons (ps_fld (pv 0) (pe_call (E := E) GC (hr.mono (by decide)) (by rfl) gC kC bC .nil (passes_call (takes_of rfl rfl rfl rfl) fun _ _ _ _ h => h) (pa_cons (pv 2) pa_nil)) rfl)
    (pss_one (ps_fld (pv 0) (pe_call (E := E) GS (hr.mono (by decide)) (by rfl) gS kS bS .nil (passes_call (takes_of rfl rfl rfl rfl) fun _ _ _ _ h => h) (pa_cons (pv 1) (pa_cons (pv 2) pa_nil))) rfl)), ?_⟩
  unfold ocLines at c
  refine ⟨_, rfl, ?_⟩
  try unfold tNil
  show spRise K "NoLine" "line" 6 [.ref a] _ _ _
  refine ⟨a, xs, rfl, ha, ao, om_step c (fun _ _ _ e => e) fun er c H1 s1 => ?_⟩
  refine ⟨_, rfl, p, _, dx, _, rfl, s1 _ _ hp, clC, T.no ("Night", "lines") (by decide), by show 0 < 1000; decide, ?_⟩
  have q1 : Same2 H (upd H1 p (.ins (ga K "Night") dx [("lines", .ref a)])) p := Same2.trans (Same.two s1 p) two_upd
  obtain ⟨ns, rfl, hne⟩ := rise_ints er
  have en : (ns.map V.int).map intV = ns := by rw [List.map_map]; exact List.map_id' ns
  rw [en] at c
  refine ⟨_, rfl, _, rfl, ?_⟩
  try unfold tNil
  show spStop K "NoLine" "line" [u, .ref a] _ _ _
  refine ⟨u, du, a, ns, rfl, ou.ins hp q1, q1 _ _ (fun e => by rw [e, hp] at ha; cases ha) ha, hne, om_last c q1 fun es c H2 s2 => ?_⟩
  refine ⟨_, rfl, p, _, dx, _, rfl, s2 _ _ upd_same, clC, T.no ("Night", "upto") (by decide), by show 1 < 1000; decide, ?_⟩
  exact c _ (q1.trans (Same2.trans (Same.two s2 p) two_upd)) upd_same
theorem scI_Renew : FnScope ["self", "upto", "days"] ["self", "upto", "days"] (defScope (iSt 63)) := ⟨rfl, rfl, rfl, by decide +kernel, rfl, by decide +kernel, by decide +kernel⟩
theorem ok_Renew (T : KF P w K mg base) {fd : FuncData} (F : IniD K ("Renew", 63) fd) : Sk.FnSK P w K mg base (L2.CX P w) 5 (ma K (ga K "Renew") "__init__") "upto" (Sk.spSK (spMkS K (ga K "Renew") ocDays "days" "upto")) := by
  obtain ⟨fC, GC, bC, kC, gC⟩ := c_days (w := w) T
  obtain ⟨fS, GS, bS, kS, gS⟩ := c_dstop (w := w) T
  obtain ⟨_, clC, _⟩ := T.gk ("Renew", 63) (by decide)
  obtain ⟨oc, od, dV, kV, doc, pm, an, cdv, ct, osl, rfl, lk, hcd, hD, hK⟩ := F.ex
  rcases hD with ⟨_, rfl⟩ | ⟨e, _⟩
  case inr => exact absurd rfl e
  rcases hK with e | ⟨D, rfl, hq⟩
  case inl => exact nomatch e
  obtain ⟨uv, hu, ru⟩ := hq ("upto", .non) (by show _ ∈ [(("upto" : Str), V.non)]; exact List.mem_singleton.mpr rfl)
  have ru : uv = Value.none := ru
  subst ru
  refine Sk.fn_sk (p1 := "self") (kn := "upto") (pv := "days") lk hcd scI_Renew StX.cxUp (fun a rest u => ?b1) ⟨D, hu, fun a rest => ?b0⟩ fun A outer s H vs Q E hr h => ?_
  case b1 => cases rest <;> rfl
  case b0 => cases rest <;> exact ⟨_, _, _, _, _, _, rfl, rfl, rfl⟩
  obtain ⟨p, dx, u, a, xs, rfl, hp, ha, ⟨du, ou⟩, ao, c⟩ := h
  refine ⟨_, pss_cons (ps_fld (pv 0) (pe_call (E := E) GC (hr.mono (by decide)) (by rfl) gC kC bC .nil (passes_call (takes_of rfl rfl rfl rfl) fun _ _ _ _ h => h) (pa_cons (pv 2) pa_nil)) rfl)
    (pss_one (ps_fld (pv 0) (pe_call (E := E) GS (hr.mono (by decide)) (by rfl) gS kS bS .nil (passes_call (takes_of rfl rfl rfl rfl) fun _ _ _ _ h => h) (pa_cons (pv 1) (pa_cons (pv 2) pa_nil))) rfl)), ?_⟩
  unfold ocDays at c
  refine ⟨_, rfl, ?_⟩
  try unfold tNil
  show spRise K "NoDay" "day" 200 [.ref a] _ _ _
  refine ⟨a, xs, rfl, ha, ao, om_step c (fun _ _ _ e => e) fun er c H1 s1 => ?_⟩
  refine ⟨_, rfl, p, _, dx, _, rfl, s1 _ _ hp, clC, T.no ("Renew", "days") (by decide), by show 0 < 1000; decide, ?_⟩
  have q1 : Same2 H (upd H1 p (.ins (ga K "Renew") dx [("days", .ref a)])) p := Same2.trans (Same.two s1 p) two_upd
  obtain ⟨ns, rfl, hne⟩ := rise_ints er
  have en : (ns.map V.int).map intV = ns := by rw [List.map_map]; exact List.map_id' ns
  rw [en] at c
  refine ⟨_, rfl, _, rfl, ?_⟩
  try unfold tNil
  show spStop K "NoDay" "day" [u, .ref a] _ _ _
  refine ⟨u, du, a, ns, rfl, ou.ins hp q1, q1 _ _ (fun e => by rw [e, hp] at ha; cases ha) ha, hne, om_last c q1 fun es c H2 s2 => ?_⟩
  refine ⟨_, rfl, p, _, dx, _, rfl, s2 _ _ upd_same, clC, T.no ("Renew", "upto") (by decide), by show 1 < 1000; decide, ?_⟩
  exact c _ (q1.trans (Same2.trans (Same.two s2 p) two_upd)) upd_same
end
end K8
set_option Elab.async false
set_option linter.all false
set_option maxRecDepth 100000
set_option maxHeartbeats 1000000
/-! try: .. except X as e: v = e, and v asked behind the try: the caught error is tracked from the end of the suite on. -/
namespace Hd
open PySem PySem.Spec PyProof.Rows L2
/-- an error at a: its class, its dict -/
def ExF (C : Value) (d : Option Addr) (a : Addr) : HO := .ext fun h => ∃ (oe : Obj) (vs : Array Value), h.get? a = some oe ∧ Zc C d oe ∧ oe.data = .fields vs
theorem exF_ok {P : Program} {w : World} {H : Hp} {h : Heap} {C : Value} {d : Option Addr} {a : Addr} {oe : Obj} {vs : Array Value} (e : h.get? a = some oe) (z : Zc C d oe) (hd : oe.data = .fields vs) : ObjOk P w H h a (ExF C d a) :=
  ⟨⟨oe, vs, e, z, hd⟩, ⟨oe, e⟩, fun _ _ ⟨o, us, b1, b2, b3⟩ k => ⟨o, us, k _ b1, b2, b3⟩⟩
theorem exF_at {P : Program} {w : World} {H : Hp} {h : Heap} {C : Value} {d : Option Addr} {a : Addr} (ok : HOk P w H h) (e : H a = some (ExF C d a)) : ∃ (oe : Obj) (vs : Array Value), h.get? a = some oe ∧ Zc C d oe ∧ oe.data = .fields vs := by
  have z : ObjOk P w H h a (ExF C d a) := ok a _ e
  exact z.1
section
variable {X : Cx} {pins : List (Addr × Obj)} {σ : L2.St} {H : Hp} {s : Shared} {a : Addr} {oe : Obj} {vs : Array Value} {C : Value} {d : Option Addr}
/-- a pinned error becomes a tracked one -/
theorem track (I : Inv X ((a, oe) :: pins) σ H s) (z : Zc C d oe) (hd : oe.data = .fields vs) (n0 : X.s_0.heap.get? a = none) (np : ∀ p ∈ X.pn ++ pins, p.1 ≠ a) : Inv X pins σ (upd H a (ExF C d a)) s := by
  obtain ⟨ha, na, nL, nF, nc⟩ := I.pin (a, oe) (List.mem_append_right _ List.mem_cons_self)
  have ha : s.heap.get? a = some oe := ha
  have na : H a = none := na
  have other : ∀ {b : Addr} {u : HO}, H b = some u → upd H a (ExF C d a) b = some u := fun {b u} e => by
    rw [upd_ne (fun q => by rw [q, na] at e; cases e)]
    exact e
  have old : ∀ {b : Addr} {o : Obj}, X.s_0.heap.get? b = some o → upd H a (ExF C d a) b = H b := fun {b o} e => upd_ne fun q => by
    rw [q, n0] at e
    cases e
  refine ⟨I.ok, I.os, I.bare, ⟨I.base.keep, I.base.slot, fun b o e n hx => ?_, I.base.there, fun b xs e => ?_, fun b o u e => ?_, fun b ps e => ?_⟩, I.loc, I.cell, ?_, fun x c e => ?_, fun p hp => ?_, fun b u e => ?_, I.len⟩
  · rw [old e]
    exact I.base.free b o e n hx
  · exact other (I.base.tups b xs e)
  · exact other (I.base.frzs b o u e)
  · obtain ⟨more, q⟩ := I.base.tbls b ps e
    exact ⟨more, other q⟩
  · rw [upd_ne (Ne.symm nL)]
    exact I.free
  · rw [upd_ne]
    · exact I.freeC x c e
    · intro q
      obtain ⟨v, o, ho, hv⟩ := I.cell x c e
      rw [q, ha] at ho
      cases ho
      exact nc v hv
  · have hp2 : p ∈ X.pn ++ ((a, oe) :: pins) := (List.mem_append.mp hp).elim (fun q => List.mem_append_left _ q) fun q => List.mem_append_right _ (List.mem_cons_of_mem _ q)
    obtain ⟨p1, p2, p3⟩ := I.pin p hp2
    exact ⟨p1, by rw [upd_ne (np p hp)]; exact p2, p3⟩
  · by_cases q : b = a
    · rw [q, upd_same] at e
      cases e
      rw [q]
      exact exF_ok ha z hd
    · rw [upd_ne q] at e
      exact (I.hok b u e).stay (fun _ _ _ r => r) (fun _ r => other r) fun _ _ r => other r
end
/-- what the clause wishes: behind its suite the error is tracked -/
def wHold (K : PySem.W.Frag) (c : Value) (i : Nat) (ts : Addr → Value → Option Addr → TS) (Wout : WX) (D : Ends) : WX := fun cls d σ H =>
  ∃ b, PySem.W.exmOne K cls c = some b ∧ (b = false → Wout cls d σ H) ∧
    (b = true → ∀ a, H a = none → ts a cls d { nx := fun σ6 H6 => D.nx (σ6.set i none) (upd H6 a (ExF cls d a)), rt := D.rt } (σ.set i (some (.ref a))) H)
section
variable {X : Cx} {x n : Str} {c : Value} {i : Nat} {body suite : List Stmt} {b₀ : Stmt} {np pos pos' : Pos} {tb : WX → TS} {ts : Addr → Value → Option Addr → TS} {Wout : WX}
theorem ps_try_hold (hs : X.stack = X.env :: X.outer) (hf : X.env.frame = some X.env.locals) (hN : X.N.Nodup) (hi : X.N[i]? = some n) (hln : X.env.kindOf n = some .local) (hc : Names X x c) (hex : X.ex = []) (tk : Takes X Wout)
    (hb : ∀ (W : WX) (pn : List (Addr × Obj)) (xe : Value → Shared → Prop), Takes (X.tr pn xe) W → PassesOwn (model X.prog X.w) X.A X.env xe → PSs (X.tr pn xe) body (tb W))
    (hsu : ∀ (a : Addr) (oe : Obj) (cls : Value) (d : Option Addr) (pn : List (Addr × Obj)), Zc cls d oe → (∃ vs, oe.data = .fields vs) → PSs (X.suite a ((a, oe) :: pn)) (b₀ :: suite) (ts a cls d)) :
    PS X (.Try body [.ExceptHandler (some (.Name x np)) (some n) (b₀ :: suite) pos'] [] [] pos) (fun D σ H => tb (wHold X.K c i ts Wout D) D σ H) := by
  constructor
  intro pins s σ H D I h
  have ok := I.ok
  have fr : X.A.frames = some (X.env :: X.outer) := ok.frames.trans (congrArg some hs)
  refine wpAny_Try_except (wpAny_mono ((hb _ (X.pn ++ pins) _ ?takes PassesOwn.looking).run [] s σ H D (I.toTry _) h) (fun fl t ht => ?_) fun _ _ z => z)
  case takes =>
    intro u t out
    obtain ⟨a, B, t0, ps0, σ0, H0, cls, d, rfl, J, nb, up, sky, na, os, ag, b, hb1, hno, hyes⟩ := out
    have J0 : Inv X pins σ0 H0 t0 := J.ofTry ok
    rw [hs] at sky
    have skyB : B.get? a = none := by
      rcases sky with q | q | q
      · exact q.2.1
      · exact q.2.1
      · exact q.2.1
    refine Sky.land Zc.steady fr hf sky fun g1 fl1 up1 => ?_
    have L1 : Inv X pins σ0 H0 { t with heap := g1 } := J0.landed nb fl1.1 (up.trans up1) os ag
    obtain ⟨o1, us1, e1, z1, d1⟩ := fl1.there
    have offStack : a ∉ frs (X.env :: X.outer) := fun hm => by
      obtain ⟨_, o', e', hnf⟩ := fl1.2.2.1.mem hm
      rw [e1] at e'
      cases e'
      exact hnf _ d1
    have offL : a ≠ X.env.locals := fun q => offStack (List.mem_filterMap.mpr ⟨X.env, List.mem_cons_self, hf.trans (congrArg some q.symm)⟩)
    have offF : a ∉ X.fs := fun hm => let ⟨e, he, q⟩ := List.mem_filterMap.mp hm; offStack (List.mem_filterMap.mpr ⟨e, List.mem_cons_of_mem _ he, q⟩)
    have fresh : t0.heap.get? a = none := by
      cases q : t0.heap.get? a with
      | none => rfl
      | some o =>
        have q2 := nb a o q (by rw [hs]; exact offStack)
        rw [skyB] at q2
        cases q2
    have fresh0 : X.s_0.heap.get? a = none := by
      cases q : X.s_0.heap.get? a with
      | none => rfl
      | some o =>
        by_cases hx : a ∈ X.ex
        · exact absurd hx (by rw [hex]; simp)
        · obtain ⟨o', q2⟩ := J0.base.there a o q hx
          rw [fresh] at q2
          cases q2
    have pinsOff : ∀ p ∈ X.pn ++ pins, p.1 ≠ a := fun p hp q => by
      have q2 := (J0.pin p hp).1
      rw [q, fresh] at q2
      cases q2
    have S1 := L1.suite e1 d1 na offL offF
    refine wpAny_handleBy_cons (codeAny_handlers_test ?_) (by intro q; cases q)
    have LT : PySem.W.Looks (model X.prog X.w) g1 (typeOf (.ref a)) cls := fun _ _ _ r k q => wpAny_typeOf_ref (k _ _ e1) (by rw [z1.1]; exact q)
    have LM := PySem.W.exm_one (M := model X.prog X.w) L1.kIn LT hb1
    have asks : ∀ {Q E : Value → Shared → Prop}, Q c { t with heap := g1 } → wpAny (model X.prog X.w) (X.A.mark (some (.ref a))) (eval (.Name x np) X.env) Q E { t with heap := g1 } := fun {Q E} q => by
      obtain ⟨hg, hdbg, hm | ⟨hm, hv, hnn⟩⟩ := hc
      · exact ld_glob (X := X.suite a ((a, o1) :: (X.pn ++ pins))) S1 hg hm q hdbg
      · exact ld_blt (X := X.suite a ((a, o1) :: (X.pn ++ pins))) S1 hg hm hv q hnn hdbg
    refine asks (LM.here ?_)
    cases b with
    | false =>
      refine wpAny_handleBy_nil ?_
      obtain ⟨_, _, _, o3, us3, T, _, _, e3, _, d3, i3, _⟩ := id fl1
      unfold PySem.passOn
      refine wpAny_bind (wpAny_field e3 d3 i3 ?_)
      rw [if_neg (fun q : (Value.ref T == Value.none) = true => nomatch q)]
      have away : wpAny (model X.prog X.w) X.A (setFlight (.ref a) X.env.frame) (fun _ r => wpAny (model X.prog X.w) X.A (throw (.ref a) : Sem Flow) (SP X pins D) X.xe r) X.xe { t with heap := g1 } := by
        rw [hf]
        refine HandSPX.setFlight_upZ fl1 fun g2 fl2 up2 => wpAny_throw (tk _ _ ?_)
        exact ⟨a, B, t0, pins, σ0, H0, cls, d, rfl, J0, nb, (up.trans up1).trans up2, .inr (.inr (by rw [hs]; exact fl2)), na, os, ag, hno rfl⟩
      first
        | exact wpAny_bind (wpAny_pure (wpAny_bind away))
        | exact wpAny_bind away
    | true =>
      refine codeAny_handlers_suite_as (HandSPX.lands_againZ fl1 fun g2 fl2 up2 => ?_)
      have L2' : Inv X pins σ0 H0 { t with heap := g2 } := J0.landed nb fl2.1 ((up.trans up1).trans up2) os ag
      obtain ⟨o2, us2, e2, z2, d2⟩ := fl2.there
      have S2 := L2'.suite e2 d2 na offL offF
      refine store_ok (X := X.suite a ((a, o2) :: (X.pn ++ pins))) (v := .ref a) S2 hN hi (.inl hln) rfl (fun t5 S5 => ?_) (.inr hln)
      refine wpAny_mono ((hsu a o2 cls d (X.pn ++ pins) z2 ⟨_, d2⟩).run [] t5 _ H0 _ S5 (hyes rfl a na)) (fun fl6 t6 h6 => ?_) (fun _ _ z => z.elim)
      have back : ∀ {σ6 : L2.St} {H6 : Hp}, Inv (X.suite a ((a, o2) :: (X.pn ++ pins))) [] σ6 H6 t6 → Inv X ((a, o2) :: pins) σ6 H6 t6 := fun S6 => by
        have U := S6.unsuite (pins := pins) ok
        exact ⟨U.ok, U.os, U.bare, U.base, U.loc, U.cell, U.free, U.freeC, fun p hp => S6.pin p (by
          rcases List.mem_append.mp hp with q | q
          · exact List.mem_append_left _ (List.mem_cons_of_mem _ (List.mem_append_left _ q))
          · rcases List.mem_cons.mp q with q | q
            · rw [q]
              exact List.mem_append_left _ List.mem_cons_self
            · exact List.mem_append_left _ (List.mem_cons_of_mem _ (List.mem_append_right _ q))), U.hok, U.len⟩
      cases fl6 with
      | next =>
        obtain ⟨σ6, H6, S6, q6⟩ := h6
        exact gone_ok (back S6) hN hi hln fun t7 J7 => ⟨_, _, track J7 z2 d2 fresh0 pinsOff, q6⟩
      | brk => obtain ⟨_, _, _, q6⟩ := h6; exact q6.elim
      | cont => obtain ⟨_, _, _, q6⟩ := h6; exact q6.elim
      | ret u =>
        obtain ⟨v6, σ6, H6, S6, r6, q6⟩ := h6
        exact gone_ok (S6.unsuite (pins := pins) ok) hN hi hln fun t7 J7 => ⟨v6, _, H6, J7, r6, q6⟩
  · cases fl with
    | next =>
      obtain ⟨σ1, H1, J1, q⟩ := ht
      exact wpAny_execs_nil ⟨σ1, H1, J1.ofTry ok, q⟩
    | brk =>
      obtain ⟨σ1, H1, J1, q⟩ := ht
      exact ⟨σ1, H1, J1.ofTry ok, q⟩
    | cont =>
      obtain ⟨σ1, H1, J1, q⟩ := ht
      exact ⟨σ1, H1, J1.ofTry ok, q⟩
    | ret u =>
      obtain ⟨v, σ1, H1, J1, r1, q⟩ := ht
      exact ⟨v, σ1, H1, J1.ofTry ok, r1, q⟩
end
end Hd
set_option Elab.async false
set_option linter.all false
set_option maxRecDepth 100000
set_option maxHeartbeats 1000000
/-! try: .. except X: .. except Y as n: .. : each error of the body is one of the two. -/
namespace Hd
open PySem PySem.Spec PyProof.Rows L2
def wTwo (K : PySem.W.Frag) (c c2 : Value) (i : Nat) (ts : TS) (ts2 : Addr → Value → Option Addr → TS) (D : Ends) : WX := fun cls d σ H =>
  (PySem.W.exmOne K cls c = some true ∧ ts { nx := D.nx, rt := D.rt } σ H) ∨
  (PySem.W.exmOne K cls c = some false ∧ PySem.W.exmOne K cls c2 = some true ∧ ∀ a, H a = none → ts2 a cls d { nx := fun σ6 H6 => D.nx (σ6.set i none) H6, rt := D.rt } (σ.set i (some (.ref a))) H)
section
variable {X : Cx} {x y n : Str} {c c2 : Value} {i : Nat} {body suite suite2 : List Stmt} {b₀ b₂ : Stmt} {np np2 pos pos' pos2 : Pos} {tb : WX → TS} {ts : TS} {ts2 : Addr → Value → Option Addr → TS}
theorem ps_try_two (hs : X.stack = X.env :: X.outer) (hf : X.env.frame = some X.env.locals) (hN : X.N.Nodup) (hi : X.N[i]? = some n) (hln : X.env.kindOf n = some .local) (hc : Names X x c) (hc2 : Names X y c2)
    (hb : ∀ (W : WX) (pn : List (Addr × Obj)) (xe : Value → Shared → Prop), Takes (X.tr pn xe) W → PassesOwn (model X.prog X.w) X.A X.env xe → PSs (X.tr pn xe) body (tb W))
    (hsu : ∀ (a : Addr) (oe : Obj) (pn : List (Addr × Obj)), PSs (X.suite a ((a, oe) :: pn)) (b₀ :: suite) ts)
    (hsu2 : ∀ (a : Addr) (oe : Obj) (cls : Value) (d : Option Addr) (pn : List (Addr × Obj)), Zc cls d oe → (∃ vs, oe.data = .fields vs) → PSs (X.suite a ((a, oe) :: pn)) (b₂ :: suite2) (ts2 a cls d)) :
    PS X (.Try body [.ExceptHandler (some (.Name x np)) none (b₀ :: suite) pos', .ExceptHandler (some (.Name y np2)) (some n) (b₂ :: suite2) pos2] [] [] pos) (fun D σ H => tb (wTwo X.K c c2 i ts ts2 D) D σ H) := by
  constructor
  intro pins s σ H D I h
  have ok := I.ok
  have fr : X.A.frames = some (X.env :: X.outer) := ok.frames.trans (congrArg some hs)
  refine wpAny_Try_except (wpAny_mono ((hb _ (X.pn ++ pins) _ ?takes PassesOwn.looking).run [] s σ H D (I.toTry _) h) (fun fl t ht => ?_) fun _ _ z => z)
  case takes =>
    intro u t out
    obtain ⟨a, B, t0, ps0, σ0, H0, cls, d, rfl, J, nb, up, sky, na, os, ag, wish⟩ := out
    have J0 : Inv X pins σ0 H0 t0 := J.ofTry ok
    rw [hs] at sky
    refine Sky.land Zc.steady fr hf sky fun g1 fl1 up1 => ?_
    have L1 : Inv X pins σ0 H0 { t with heap := g1 } := J0.landed nb fl1.1 (up.trans up1) os ag
    obtain ⟨o1, us1, e1, z1, d1⟩ := fl1.there
    have offStack : a ∉ frs (X.env :: X.outer) := fun hm => by
      obtain ⟨_, o', e', hnf⟩ := fl1.2.2.1.mem hm
      rw [e1] at e'
      cases e'
      exact hnf _ d1
    have offL : a ≠ X.env.locals := fun q => offStack (List.mem_filterMap.mpr ⟨X.env, List.mem_cons_self, hf.trans (congrArg some q.symm)⟩)
    have offF : a ∉ X.fs := fun hm => let ⟨e, he, q⟩ := List.mem_filterMap.mp hm; offStack (List.mem_filterMap.mpr ⟨e, List.mem_cons_of_mem _ he, q⟩)
    have S1 := L1.suite e1 d1 na offL offF
    have LT : PySem.W.Looks (model X.prog X.w) g1 (typeOf (.ref a)) cls := fun _ _ _ r k q => wpAny_typeOf_ref (k _ _ e1) (by rw [z1.1]; exact q)
    have asks : ∀ {v : Str} {cv : Value} {vp : Pos}, Names X v cv → ∀ {Q E : Value → Shared → Prop}, Q cv { t with heap := g1 } → wpAny (model X.prog X.w) (X.A.mark (some (.ref a))) (eval (.Name v vp) X.env) Q E { t with heap := g1 } := fun {v cv vp} hv {Q E} q => by
      obtain ⟨hg, hdbg, hm | ⟨hm, hw, hnn⟩⟩ := hv
      · exact ld_glob (X := X.suite a ((a, o1) :: (X.pn ++ pins))) S1 hg hm q hdbg
      · exact ld_blt (X := X.suite a ((a, o1) :: (X.pn ++ pins))) S1 hg hm hw q hnn hdbg
    rcases wish with ⟨m1, q1⟩ | ⟨m1, m2, q2⟩
    · refine wpAny_handleBy_cons (codeAny_handlers_test (asks hc ((PySem.W.exm_one (M := model X.prog X.w) L1.kIn LT m1).here ?_))) (by intro q; cases q)
      refine codeAny_handlers_suite (HandSPX.lands_againZ fl1 fun g2 fl2 up2 => ?_)
      have L2' : Inv X pins σ0 H0 { t with heap := g2 } := J0.landed nb fl2.1 ((up.trans up1).trans up2) os ag
      obtain ⟨o2, us2, e2, z2, d2⟩ := fl2.there
      have S2 := L2'.suite e2 d2 na offL offF
      refine wpAny_mono ((hsu a o2 (X.pn ++ pins)).run [] _ _ H0 _ S2 q1) (fun fl6 t6 h6 => ?_) (fun _ _ z => z.elim)
      cases fl6 with
      | next => obtain ⟨σ6, H6, S6, q6⟩ := h6; exact ⟨σ6, H6, S6.unsuite (pins := pins) ok, q6⟩
      | brk => obtain ⟨_, _, _, q6⟩ := h6; exact q6.elim
      | cont => obtain ⟨_, _, _, q6⟩ := h6; exact q6.elim
      | ret u => obtain ⟨v6, σ6, H6, S6, r6, q6⟩ := h6; exact ⟨v6, σ6, H6, S6.unsuite (pins := pins) ok, r6, q6⟩
    · refine wpAny_handleBy_cons (codeAny_handlers_test (asks hc ((PySem.W.exm_one (M := model X.prog X.w) L1.kIn LT m1).here ?_))) (by intro q; cases q)
      refine wpAny_handleBy_cons (codeAny_handlers_test (asks hc2 ((PySem.W.exm_one (M := model X.prog X.w) L1.kIn LT m2).here ?_))) (by intro q; cases q)
      refine codeAny_handlers_suite_as (HandSPX.lands_againZ fl1 fun g2 fl2 up2 => ?_)
      have L2' : Inv X pins σ0 H0 { t with heap := g2 } := J0.landed nb fl2.1 ((up.trans up1).trans up2) os ag
      obtain ⟨o2, us2, e2, z2, d2⟩ := fl2.there
      have S2 := L2'.suite e2 d2 na offL offF
      refine store_ok (X := X.suite a ((a, o2) :: (X.pn ++ pins))) (v := .ref a) S2 hN hi (.inl hln) rfl (fun t5 S5 => ?_) (.inr hln)
      refine wpAny_mono ((hsu2 a o2 cls d (X.pn ++ pins) z2 ⟨_, d2⟩).run [] t5 _ H0 _ S5 (q2 a na)) (fun fl6 t6 h6 => ?_) (fun _ _ z => z.elim)
      cases fl6 with
      | next =>
        obtain ⟨σ6, H6, S6, q6⟩ := h6
        exact gone_ok (S6.unsuite (pins := pins) ok) hN hi hln fun t7 J7 => ⟨_, _, J7, q6⟩
      | brk => obtain ⟨_, _, _, q6⟩ := h6; exact q6.elim
      | cont => obtain ⟨_, _, _, q6⟩ := h6; exact q6.elim
      | ret u =>
        obtain ⟨v6, σ6, H6, S6, r6, q6⟩ := h6
        exact gone_ok (S6.unsuite (pins := pins) ok) hN hi hln fun t7 J7 => ⟨v6, _, H6, J7, r6, q6⟩
  · cases fl with
    | next =>
      obtain ⟨σ1, H1, J1, q⟩ := ht
      exact wpAny_execs_nil ⟨σ1, H1, J1.ofTry ok, q⟩
    | brk =>
      obtain ⟨σ1, H1, J1, q⟩ := ht
      exact ⟨σ1, H1, J1.ofTry ok, q⟩
    | cont =>
      obtain ⟨σ1, H1, J1, q⟩ := ht
      exact ⟨σ1, H1, J1.ofTry ok, q⟩
    | ret u =>
      obtain ⟨v, σ1, H1, J1, r1, q⟩ := ht
      exact ⟨v, σ1, H1, J1.ofTry ok, r1, q⟩
end
end Hd
set_option Elab.async false
set_option linter.all false
set_option maxRecDepth 100000
set_option maxHeartbeats 1000000
namespace Hd
open PySem PySem.Spec PyProof.Rows L2
/-- a caught error at a of the class at C, with the fields fs in its dict at d -/
structure ErF (H : Hp) (a C d : Addr) (fs : List (Str × V)) : Prop where
  ob : H a = some (ExF (.ref C) (some d) a)
  dc : H d = some (.xd fs)
theorem ErF.inst {X : Cx} {pins : List (Addr × Obj)} {σ : L2.St} {H : Hp} {s : Shared} {a C d : Addr} {fs : List (Str × V)} (I : Inv X pins σ H s) (r : ErF H a C d fs) :
    ∃ (ox od : Obj) (mA : Str → Option Value), PySem.W.InstAt s.heap a ox C (some od) ∧ (∀ n, PySem.W.lookIn n od = some (mA n)) ∧ ∀ n, RelO (fs.lookup n) (mA n) := by
  obtain ⟨oe, vs, ha, hz, hd⟩ := exF_at I.hok r.ob
  have hx : ObjOk X.prog X.w H s.heap d (.xd fs) := I.hok d _ r.dc
  obtain ⟨mA, hns, rel⟩ := hx
  obtain ⟨od, ho, hl⟩ := lookIn_ns hns
  exact ⟨oe, od, mA, ⟨ha, hz.1, by unfold PySem.W.notCls; rw [hd] <;> rfl, by rw [hz.2]; exact ho⟩, hl, rel⟩
/-- e.f -/
def tFF (K : PySem.W.Frag) (te : TE) (f : Str) : TE := fun σ H Q => te σ H fun x H1 => ∃ a C d fs v, x = .ref a ∧ ErF H1 a C d fs ∧ XfC K C ∧ PySem.W.findIn K (.ref C) f = some none ∧ fs.lookup f = some v ∧ Q v H1
theorem pe_ff {X : Cx} {e : Expr} {te : TE} {pos : Pos} {f : Str} (he : PE X e te) (hb : attributeBase e f X.env (eval e X.env) = eval e X.env := by rfl) : PE X (.Attribute e f pos) (tFF X.K te f) := by
  refine ⟨fun pins s σ H Q I h => attr_of hb (thn (he.run pins s σ H _ I h) fun u s1 hh => ?_)⟩
  obtain ⟨x, H1, I1, rx, a, C, d, fs, v, rfl, r, T, hno, l, q⟩ := hh
  obtain rfl : u = Value.ref a := rx
  obtain ⟨ox, od, mA, J, hl, rel⟩ := r.inst I1
  obtain ⟨z, hz, rz⟩ := RelO.some_of (v := v) (o := mA f) (by rw [← l]; exact rel f)
  exact HandSPX.exc_get I1.kIn J T.ga T.gg T.exC (PySem.W.findObj_own T.hdC hno rfl (by rw [hl, hz])) (handed_of rz) ⟨v, H1, I1.tok _, rz, q⟩
/-- isinstance(e, c) -/
def rIsF (K : PySem.W.Frag) : List V → Hp → VK → Prop := fun xs H Q => ∃ (a C d : Addr) (fs : List (Str × V)) (c : V) (u : Value) (b : Bool), xs = [.ref a, c] ∧ ErF H a C d fs ∧ L2.ExcC K C ∧ ClsV c u ∧ PySem.W.kitOne K (.ref C) u = some b ∧ Q (.bl b) H
theorem call_isF {X : Cx} : CallR X (.builtin "isinstance") (rIsF X.K) := by
  intro pins s σ H xs us Q I r h
  obtain ⟨a, C, d, fs, c, u, b, rfl, hi, T, k, e, q⟩ := h
  obtain ⟨u1, u2, rfl, r1, r2⟩ := vals2 r
  have e2 := k.eq r2
  subst e2
  cases (show u1 = Value.ref a from r1)
  have hcl : (PySem.W.clsIn X.K C).isSome = true := by
    obtain ⟨cd, hc, _⟩ := PySem.W.any_some T.hd
    rw [hc]
    rfl
  obtain ⟨ox, od, mA, J, _⟩ := hi.inst I
  exact PySem.W.kia_one (PySem.W.kitx_exc hcl T.hg T.hk T.hs T.ha T.hn T.ht T.hm) I.kIn J e (fun z => nomatch z) fun tk => ⟨.bl b, H, I.tok tk, rfl, q⟩
end Hd
namespace Oo
open PySem PySem.Spec PyProof.Rows L2
/-- repr of a text -/
abbrev rRepT : List V → Hp → VK → Prop := fun xs H Q => ∃ x : Str, xs = [.str x] ∧ (reprText x).length ≤ sizeLine ∧ Q (.str (reprText x)) H
theorem call_repr_txt {X : Cx} : CallR X (.builtin "repr") rRepT := by
  intro pins s σ H xs us Q I r h
  obtain ⟨x, rfl, hz, q⟩ := h
  obtain ⟨u, rfl, ru⟩ := vals1 r
  obtain ⟨t, rfl⟩ := (show ∃ t, u = Value.str x t from ru)
  exact PySem.P.repr_of_str ⟨.str _, H, I.tok _, ⟨_, rfl⟩, q⟩ hz
end Oo
set_option Elab.async false
set_option linter.all false
set_option maxRecDepth 100000
set_option maxHeartbeats 1000000
/-! Tests and expressions that only make new things. -/
namespace K8
open PySem PySem.Spec PyProof.Rows L2 RV EV He EF EI Hd LamX NdefX
def TestR (t : TT) (σ : L2.St) (H : Hp) (b : Bool) : Prop := ∀ H1, Same H H1 → ∀ F : Bool → Hp → Prop, (∀ H', Same H1 H' → F b H') → t σ H1 F
section
variable {t u : TT} {σ : L2.St} {H : Hp} {a b : Bool} {D : Ends} {A B : TS}
theorem TestR.and (h1 : TestR t σ H a) (h2 : TestR u σ H b) : TestR (tAnd t u) σ H (a && b) := fun H1 s1 F k => h1 H1 s1 _ fun H2 s2 => by
  cases a with
  | true => exact if_posB rfl (h2 H2 (s1.trans s2) _ fun H3 s3 => k H3 (s2.trans s3))
  | false => exact if_negB rfl (k H2 s2)
theorem TestR.or (h1 : TestR t σ H a) (h2 : TestR u σ H b) : TestR (tOr t u) σ H (a || b) := fun H1 s1 F k => h1 H1 s1 _ fun H2 s2 => by
  cases a with
  | true => exact if_posB rfl (k H2 s2)
  | false => exact if_negB rfl (h2 H2 (s1.trans s2) _ fun H3 s3 => k H3 (s2.trans s3))
theorem TestR.not (h : TestR t σ H a) : TestR (tNot t) σ H (!a) := fun H1 s1 F k => h H1 s1 _ fun H2 s2 => k H2 s2
theorem TestR.ifS (h : TestR t σ H b) (ht : b = true → ∀ H', Same H H' → A D σ H') (hf : b = false → ∀ H', Same H H' → B D σ H') : tIfS t A B D σ H := h H (fun _ _ e => e) _ fun H' s => by
  cases b with
  | true => exact if_posB rfl (ht rfl H' s)
  | false => exact if_negB rfl (hf rfl H' s)
end
theorem strB (x y : Str) : decide (V.str x = V.str y) = decide (x = y) := decide_eq_decide.mpr ⟨fun h => V.str.inj h, fun h => congrArg V.str h⟩
def ER (te : TE) (σ : L2.St) (H : Hp) (R : V → Hp → Prop) : Prop := ∀ H1, Same H H1 → ∀ F : VK, (∀ v H2, Same H1 H2 → R v H2 → F v H2) → te σ H1 F
def Stb (R : V → Hp → Prop) : Prop := ∀ v H H', Same H H' → R v H → R v H'
def IsV (x : V) : V → Hp → Prop := fun v _ => v = x
theorem stb_v {x : V} : Stb (IsV x) := fun _ _ _ _ h => h
section
variable {K : PySem.W.Frag} {σ : L2.St} {H : Hp} {ta tb te : TE} {R A B : V → Hp → Prop} {i : Nat} {b c : Bool}
theorem ER.mono {H1 : Hp} (h : ER te σ H R) (s : Same H H1) : ER te σ H1 R := fun H2 s2 => h H2 (s.trans s2)
theorem ER.go (h : ER te σ H R) {F : VK} (k : ∀ v H', Same H H' → R v H' → F v H') : te σ H F := h H (fun _ _ e => e) F k
theorem er_var {v : V} (hi : σ[i]? = some (some v)) (sr : Stb R) (hv : R v H) : ER (tVar i) σ H R := fun H1 s F k => ⟨_, hi, k _ _ (fun _ _ e => e) (sr _ _ _ s hv)⟩
theorem er_c {v : V} : ER (tC v) σ H (IsV v) := fun H1 s F k => k _ _ (fun _ _ e => e) rfl
theorem er_v {v : V} (hi : σ[i]? = some (some v)) : ER (tVar i) σ H (IsV v) := er_var hi stb_v rfl
theorem ER.op {r : R2} (ha : ER ta σ H A) (sa : Stb A) (hb : ER tb σ H B) (h : ∀ x y H1 (F : VK), Same H H1 → A x H1 → B y H1 → (∀ v H2, Same H1 H2 → R v H2 → F v H2) → r x y H1 F) : ER (tOp r ta tb) σ H R := fun H1 s1 F k =>
  ha H1 s1 _ fun x H2 s2 hx => hb H2 (s1.trans s2) _ fun y H3 s3 hy => h x y H3 F (s1.trans (s2.trans s3)) (sa _ _ _ s3 hx) hy fun v H4 s4 hv => k v H4 (s2.trans (s3.trans s4)) hv
/-- a call of a builtin with one operand -/
theorem ER.cb {r : List V → Hp → VK → Prop} (ha : ER ta σ H A) (h : ∀ x H1 (F : VK), Same H H1 → A x H1 → (∀ v H2, Same H1 H2 → R v H2 → F v H2) → r [x] H1 F) : ER (tCB r (tCons ta tNil)) σ H R := fun H1 s1 F k =>
  ha H1 s1 _ fun x H2 s2 hx => h x H2 F (s1.trans s2) hx fun v H3 s3 hv => k v H3 (s2.trans s3) hv
theorem ER.call {sp : Sp} {E : XK} (ha : ER ta σ H A) (h : ∀ x H1 (F : VK), Same H H1 → A x H1 → (∀ v H2, Same H1 H2 → R v H2 → F v H2) → sp [x] H1 F E) : ER (tCall sp [] E (tCons ta tNil)) σ H R := fun H1 s1 F k =>
  ha H1 s1 _ fun x H2 s2 hx => h x H2 F (s1.trans s2) hx fun v H3 s3 hv => k v H3 (s2.trans s3) hv
theorem ER.test (h : ER te σ H (IsV (.bl b))) : TestR (tTest te) σ H b := fun H1 s1 F k => h H1 s1 _ fun v H2 s2 e => ⟨b, e, k H2 s2⟩
theorem ER.and (ha : ER ta σ H (IsV (.bl b))) (hb : ER tb σ H (IsV (.bl c))) : ER (tAndV ta tb) σ H (IsV (.bl (b && c))) := fun H1 s1 F k => ha H1 s1 _ fun v H2 s2 e => by
  obtain rfl := e
  refine ⟨b, rfl, ?_⟩
  cases b with
  | true => exact if_posB rfl (hb H2 (s1.trans s2) _ fun v H3 s3 e => k v H3 (s2.trans s3) e)
  | false => exact if_negB rfl (k _ H2 s2 rfl)
theorem er_neS {x y : Str} (ha : ER ta σ H (IsV (.str x))) (hb : ER tb σ H (IsV (.str y))) : ER (tOp rNe ta tb) σ H (IsV (.bl (!decide (x = y)))) :=
  ha.op stb_v hb fun u v H1 F s e1 e2 k => by
    obtain rfl := e1
    obtain rfl := e2
    refine ⟨rfl, ?_⟩
    rw [strB]
    exact k _ H1 (fun _ _ e => e) rfl
theorem er_neI {x y : Int} (ha : ER ta σ H (IsV (.int x))) (hb : ER tb σ H (IsV (.int y))) : ER (tOp rNe ta tb) σ H (IsV (.bl (!decide (x = y)))) :=
  ha.op stb_v hb fun u v H1 F s e1 e2 k => by
    obtain rfl := e1
    obtain rfl := e2
    refine ⟨rfl, ?_⟩
    have e : decide (V.int x = V.int y) = decide (x = y) := decide_eq_decide.mpr ⟨V.int.inj, congrArg V.int⟩
    rw [e]
    exact k _ H1 (fun _ _ e => e) rfl
variable {tt : TT}
theorem er_if (ht : TestR tt σ H b) (h1 : b = true → ER ta σ H R) (h2 : b = false → ER tb σ H R) : ER (tIf tt ta tb) σ H R := fun H1 s1 F k => ht H1 s1 _ fun H2 s2 => by
  cases b with
  | true => exact if_posB rfl (h1 rfl H2 (s1.trans s2) F fun v H3 s3 r => k v H3 (s2.trans s3) r)
  | false => exact if_negB rfl (h2 rfl H2 (s1.trans s2) F fun v H3 s3 r => k v H3 (s2.trans s3) r)
end
abbrev tT2 (ta tb : TE) : TE := tTup (tCons ta (tCons tb tNil))
theorem er_any2 {σ : L2.St} {H : Hp} {ta tb : TE} {x y : V} (ha : ER ta σ H (IsV x)) (hb : ER tb σ H (IsV y)) : ER (tT2 ta tb) σ H (fun v H' => ∃ t, v = .ref t ∧ H' t = some (.tup [x, y])) := fun H1 s1 F k =>
  ha H1 s1 _ fun u H2 s2 e1 => hb H2 (s1.trans s2) _ fun v H3 s3 e2 => by
    obtain rfl := e1
    obtain rfl := e2
    exact ⟨by show 2 ≤ sizeLine; decide, fun t nt => k _ _ (s2.trans (s3.trans (same_new nt))) ⟨t, rfl, upd_same⟩⟩
theorem pss_of {X : Cx} {b : List Stmt} {t' : TS} (f : ∀ D σ H, t' D σ H → ∃ t, PSs X b t ∧ t D σ H) : PSs X b t' :=
  ⟨fun pins s σ H D I h => let ⟨_, p, q⟩ := f D σ H h; p.run pins s σ H D I q⟩
theorem takes_len {X : Cx} {W : WX} (tk : Takes X W) : Takes X (fun c d σ H => σ.length = X.N.length → W c d σ H) := fun u s' ⟨a, B, sI, pins, σ, H, cls, d, e, I, nb, up, sky, na, os, ag, wh⟩ =>
  tk u s' ⟨a, B, sI, pins, σ, H, cls, d, e, I, nb, up, sky, na, os, ag, wh I.len⟩
theorem map_inj {α β : Type} {f : α → β} : ∀ {l : List α}, (l.map f).Nodup → ∀ {a b : α}, a ∈ l → b ∈ l → f a = f b → a = b
  | x :: r, h, a, b, ha, hb, e => by
    obtain ⟨h1, h2⟩ := List.nodup_cons.mp (show (f x :: r.map f).Nodup from h)
    rcases List.mem_cons.mp ha with e1 | a1
    · rcases List.mem_cons.mp hb with e2 | b2
      · rw [e1, e2]
      · exact absurd (by rw [← e1, e]; exact List.mem_map_of_mem b2) h1
    · rcases List.mem_cons.mp hb with e2 | b2
      · exact absurd (by rw [← e2, ← e]; exact List.mem_map_of_mem a1) h1
      · exact map_inj h2 a1 b2 e
section
variable {P : Program} {w : World} {K : PySem.W.Frag} {mg : Str → Option Value} {base : Heap}
theorem err_inj (T : KF P w K mg base) {q r : Str × List Str} (hq : q ∈ errsN) (hr : r ∈ errsN) (e : ga K q.1 = ga K r.1) : q = r := map_inj T.ea hq hr e
theorem kit_no (T : KF P w K mg base) {q r : Str × List Str} (hq : q ∈ errsN) (hr : r ∈ errsN) (h1 : r ≠ q) (h2 : r.1 ∉ q.2) (h3 : ∀ b ∈ q.2, ∃ bs, (b, bs) ∈ errsN) :
    PySem.W.kitOne K (.ref (ga K q.1)) (.ref (ga K r.1)) = some false := by
  refine (kit (T.ek q hq) (T.ek r hr)).trans (congrArg some (decide_eq_false fun z => ?_))
  rcases z with z | z
  · exact h1 (err_inj T hr hq z)
  · obtain ⟨b, hb, e⟩ := List.mem_map.mp z
    obtain ⟨bs, hbs⟩ := h3 b hb
    have := err_inj T hbs hr e
    exact h2 (by rw [← this]; exact hb)
theorem kit_yes (T : KF P w K mg base) {q : Str × List Str} (hq : q ∈ errsN) : PySem.W.kitOne K (.ref (ga K q.1)) (.ref (ga K q.1)) = some true :=
  (kit (T.ek q hq) (T.ek q hq)).trans (by simp)
end
end K8
set_option Elab.async false
set_option linter.all false
set_option maxRecDepth 100000
set_option maxHeartbeats 1000000
/-! What evaluates to what, and only makes new things; tests; suites that return. -/
namespace K8
open PySem PySem.Spec PyProof.Rows L2 RV EV He EF EI
/-- a suite that returns -/
def RunR (tb : TS) (σ : L2.St) (H : Hp) (R : V → Hp → Prop) : Prop := ∀ H1, Same H H1 → ∀ D : Ends, (∀ v H2, Same H1 H2 → R v H2 → D.rt v H2) → tb D σ H1
theorem same_rfl {H : Hp} : Same H H := fun _ _ e => e
theorem intB (x y : Int) : decide (V.int x = V.int y) = decide (x = y) := decide_eq_decide.mpr ⟨fun h => V.int.inj h, fun h => congrArg V.int h⟩
def tStrs : List Str → TA
  | [] => tNil
  | s :: r => tCons (tC (.str s)) (tStrs r)
theorem strs_run {σ : L2.St} {H : Hp} : ∀ {ss : List Str} {Q : List V → Hp → Prop}, Q (ss.map V.str) H → tStrs ss σ H Q
  | [], _, k => k
  | s :: r, Q, k => strs_run (ss := r) (Q := fun vs H1 => Q (.str s :: vs) H1) k
section
variable {K : PySem.W.Frag} {σ : L2.St} {H : Hp} {ta tb te : TE} {R A B : V → Hp → Prop} {i : Nat} {a b c : Bool} {t u : TT} {D : Ends} {SA SB SR : TS}
/-- the second test only where the first holds -/
theorem TestR.and' (h1 : TestR t σ H a) (h2 : a = true → TestR u σ H b) : TestR (tAnd t u) σ H (a && b) := fun H1 s1 F k => h1 H1 s1 _ fun H2 s2 => by
  cases a with
  | true => exact if_posB rfl (h2 rfl H2 (s1.trans s2) _ fun H3 s3 => k H3 (s2.trans s3))
  | false => exact if_negB rfl (k H2 s2)
theorem TestR.or' (h1 : TestR t σ H a) (h2 : a = false → TestR u σ H b) : TestR (tOr t u) σ H (a || b) := fun H1 s1 F k => h1 H1 s1 _ fun H2 s2 => by
  cases a with
  | true => exact if_posB rfl (k H2 s2)
  | false => exact if_negB rfl (h2 rfl H2 (s1.trans s2) _ fun H3 s3 => k H3 (s2.trans s3))
theorem TestR.mono {H1 : Hp} (h : TestR t σ H b) (s : Same H H1) : TestR t σ H1 b := fun H2 s2 => h H2 (s.trans s2)
/-- if t: A; then what follows -/
theorem TestR.then (h : TestR t σ H b) (ht : b = true → ∀ H', Same H H' → SA { D with nx := fun σ1 H1 => SR D σ1 H1 } σ H') (hf : b = false → ∀ H', Same H H' → SR D σ H') : tSeq (tIfS t SA tNext) SR D σ H := h.ifS ht hf
theorem run_ret (h : ER te σ H R) : RunR (tRet te) σ H R := fun H1 s D k => h H1 s _ k
theorem run_if (h : TestR t σ H b) (ht : b = true → RunR SA σ H R) (hf : b = false → RunR SR σ H R) : RunR (tSeq (tIfS t SA tNext) SR) σ H R := fun H1 s1 D k => h H1 s1 _ fun H2 s2 => by
  cases b with
  | true => exact if_posB rfl (ht rfl H2 (s1.trans s2) { D with nx := fun σ1 H1 => SR D σ1 H1 } fun v H3 s3 q => k v H3 (s2.trans s3) q)
  | false => exact if_negB rfl (hf rfl H2 (s1.trans s2) D fun v H3 s3 q => k v H3 (s2.trans s3) q)
theorem run_asg (h : ER te σ H A) (hr : ∀ v H', Same H H' → A v H' → RunR SR (σ.set i (some v)) H' R) : RunR (tSeq (tAsg te (gName i)) SR) σ H R := fun H1 s1 D k => h H1 s1 _ fun v H2 s2 q =>
  hr v H2 (s1.trans s2) q H2 same_rfl D fun v H3 s3 q => k v H3 (s2.trans s3) q
theorem er_ifE {x : Bool} (h : TestR t σ H x) (ht : x = true → ER ta σ H R) (hf : x = false → ER tb σ H R) : ER (tIf t ta tb) σ H R := fun H1 s1 F k => h H1 s1 _ fun H2 s2 => by
  cases x with
  | true => exact if_posB rfl (ht rfl H2 (s1.trans s2) F fun v H3 s3 q => k v H3 (s2.trans s3) q)
  | false => exact if_negB rfl (hf rfl H2 (s1.trans s2) F fun v H3 s3 q => k v H3 (s2.trans s3) q)
theorem in_strs {neg : Bool} {x : Str} {ss : List Str} (ha : ER ta σ H (IsV (.str x))) (hz : ss.length ≤ 1000) : TestR (tTest (tOp (rIn K neg) ta (tTup (tStrs ss)))) σ H (if neg then !decide (x ∈ ss) else decide (x ∈ ss)) := fun H1 s1 F k =>
  ha H1 s1 _ fun v H2 s2 e => by
    obtain rfl := e
    refine strs_run ⟨by rw [List.length_map, sizeLine_eq]; omega, fun q nq => ⟨q, _, rfl, .inr (SqT.of upd_same), rfl, flat_strs ss, ?_⟩⟩
    rw [inV_str]
    cases neg with
    | true => exact ⟨_, rfl, k _ (s2.trans (same_new nq))⟩
    | false => exact ⟨_, rfl, k _ (s2.trans (same_new nq))⟩
theorem eq_strs {x y : Str} (ha : ER ta σ H (IsV (.str x))) (hb : ER tb σ H (IsV (.str y))) : TestR (tTest (tOp rEq ta tb)) σ H (decide (x = y)) := fun H1 s1 F k =>
  ha H1 s1 _ fun v H2 s2 e => hb H2 (s1.trans s2) _ fun u H3 s3 e2 => by
    obtain rfl := e
    obtain rfl := e2
    refine ⟨rfl, _, rfl, ?_⟩
    rw [strB]
    exact k H3 (s2.trans s3)
theorem ne_strs {x y : Str} (ha : ER ta σ H (IsV (.str x))) (hb : ER tb σ H (IsV (.str y))) : TestR (tTest (tOp rNe ta tb)) σ H (!decide (x = y)) := fun H1 s1 F k =>
  ha H1 s1 _ fun v H2 s2 e => hb H2 (s1.trans s2) _ fun u H3 s3 e2 => by
    obtain rfl := e
    obtain rfl := e2
    refine ⟨rfl, _, rfl, ?_⟩
    rw [strB]
    exact k H3 (s2.trans s3)
end
end K8
set_option Elab.async false
set_option linter.all false
set_option maxRecDepth 100000
set_option maxHeartbeats 2000000
/-! What stands behind a deed's word. -/
namespace K8
open PySem PySem.Spec PyProof.Rows L2 RV EV He EF EI
def fixAt (ws : List Str) (t : Nat) : Option Str := if t < ws.length ∧ isFixB (ws.getD t "") = true then some (ws.getD t "") else none
def numAt (ws : List Str) (t : Nat) (lo hi : Int) : Option Int := if t < ws.length then numW (ws.getD t "") lo hi else none
def isAt (ws : List Str) (t : Nat) (s : Str) : Bool := decide (t < ws.length ∧ ws.getD t "" = s)
/-- a place, or what was told -/
abbrev Rd := Nat ⊕ (List V × Nat)
def risG (ws : List Str) (most : Int) : Nat → List Int → Nat → Nat ⊕ (List Int × Nat)
  | 0, ns, t => .inr (ns, t)
  | f + 1, ns, t => if t < ws.length ∧ ws.getD t "" ≠ "to" then (match numAt ws t (ns.getLastD 0 + 1) most with
      | none => .inl t
      | some n => risG ws most f (ns ++ [n]) (t + 1)) else .inr (ns, t)
def risW (ws : List Str) (most : Int) : Nat ⊕ (List Int × Nat) := match numAt ws 1 1 most with
  | none => .inl 1
  | some n => risG ws most ws.length [n] 2
def risV (ws : List Str) (most : Int) : Rd := match risW ws most with
  | .inl i => .inl i
  | .inr (ns, t) => .inr (ns.map V.int, t)
def mateAt (ws : List Str) (kind : Str) (l : Int) : Option Int := if kind ≠ "probe" then numAt ws 2 (l + 1) 6 else if isAt ws 2 (iS l) then none else numAt ws 2 1 6
def oneN (ws : List Str) (hi : Int) : Rd := match numAt ws 1 1 hi with
  | none => .inl 1
  | some n => .inr ([.int n], 2)
def namedW (ws : List Str) (kind : Str) : Rd :=
  if kind ∈ (["fix", "unfix"] : List Str) then (match fixAt ws 1 with
    | none => .inl 1
    | some x => .inr ([.str x], 2))
  else if kind ∈ (["carry", "drop"] : List Str) then (match fixAt ws 1 with
    | none => .inl 1
    | some x => match numAt ws 2 1 6 with
      | none => .inl 2
      | some n => .inr ([.str x, .int n], 3))
  else if kind = "cut" then .inr ([], 1)
  else if kind ∈ (["try", "probe", "meet"] : List Str) then (match numAt ws 1 1 6 with
    | none => .inl 1
    | some l => match mateAt ws kind l with
      | none => .inl 2
      | some m => .inr ([.int l, .int m], 3))
  else if kind ∈ (["redo", "shut"] : List Str) then oneN ws 200
  else if kind = "renew" then risV ws 200
  else if kind ∈ (["rise", "night"] : List Str) then risV ws 6
  else oneN ws 6
/-- the words object behind some taken -/
theorem SameW.tr {H H1 H2 : Hp} {p : Addr} (a : SameW H H1 p) (b : Same H1 H2) : SameW H H2 p := fun c o n e => b c o (a c o n e)
section
variable {P : Program} {w : World} {K : PySem.W.Frag} {mg : Str → Option Value} {base : Heap} {σ : L2.St} {H : Hp} {F : VK} {E : XK} {p dx tp : Addr} {ws : List Str} {ln : Int} {t i : Nat} {ta : TA} {lo hi : Int}
/-- the methods called by their names -/
structure MD (P : Program) (w : World) (K : PySem.W.Frag) (mg : Str → Option Value) (base : Heap) : Prop extends MC P w K mg base where
  tf : ∃ fd, FnOk P w K mg base (L2.CX P w) 5 (mAd K "take_fix") fd ["self"] (spTFix K) ∧ L2.Binds K fd ["self"] []
  tn : ∃ fd, FnOk P w K mg base (L2.CX P w) 4 (mAd K "take_number") fd ["self", "least", "most"] (spTNum K) ∧ L2.Binds K fd ["self", "least", "most"] []
  tk : FnR P w K mg base (L2.CX P w) 4 (mAd K "take") (spStar (spTake0 K))
  en : ∃ fd, FnOk P w K mg base (L2.CX P w) 4 (mAd K "end") fd ["self"] (spEnd K) ∧ L2.Binds K fd ["self"] []
theorem md (T : KF P w K mg base) : MD P w K mg base := by
  obtain ⟨_, f1, F1⟩ := T.meth ("take_fix", 7) (by decide)
  obtain ⟨_, f2, F2⟩ := T.meth ("take_number", 8) (by decide)
  obtain ⟨_, f3, F3⟩ := T.meth ("end", 13) (by decide)
  exact ⟨mc T, ⟨f1, ok_tfix T F1, FunD.bindsN F1 fun _ _ _ _ _ _ us hl => match us, hl with | [_], _ => rfl⟩, ⟨f2, ok_tnum T F2, FunD.bindsN F2 fun _ _ _ _ _ _ us hl => match us, hl with | [_, _, _], _ => rfl⟩, ok_take T,
    ⟨f3, ok_end T F3, FunD.bindsN F3 fun _ _ _ _ _ _ us hl => match us, hl with | [_], _ => rfl⟩⟩
theorem fix_read (hi : σ[i]? = some (some (.ref p))) (O : WO K H p dx tp ws ln t) (hz : ∀ x ∈ ws, x.length ≤ 1000000) (yes : ∀ x, fixAt ws t = some x → ∀ H', SameW H H' p → WO K H' p dx tp ws ln (t + 1) → F (.str x) H') (no : fixAt ws t = none → ∀ H', Same H H' → BadE K H' E (.int ln) (.int t)) :
    tMeth (gW K) "take_fix" (spTFix K) [] E (tVar i) tNil σ H F := by
  refine ⟨_, hi, p, dx, _, rfl, O.ob, rfl, p, dx, tp, ws, ln, t, rfl, O, hz, ⟨fun e H' s O' => ?_, fun e H' s => no ?_ H' s⟩⟩
  · obtain ⟨a, b⟩ := Bool.and_eq_true_iff.mp e
    exact yes _ (by unfold fixAt; rw [if_pos ⟨of_decide_eq_true a, b⟩]) H' s O'
  · unfold fixAt
    refine if_neg fun z => ?_
    rw [decide_eq_true z.1, z.2] at e
    cases e
theorem num_read (hi' : σ[i]? = some (some (.ref p))) (O : WO K H p dx tp ws ln t) (hz : ∀ x ∈ ws, x.length ≤ 1000000) (l0 : 1 ≤ lo) (l1 : lo ≤ 201) (h0 : 1 ≤ hi) (h1 : hi ≤ 200) (ht : ∀ G : List V → Hp → Prop, G [.int lo, .int hi] H → ta σ H G)
    (yes : ∀ n, numAt ws t lo hi = some n → lo ≤ n → n ≤ hi → ∀ H', SameW H H' p → WO K H' p dx tp ws ln (t + 1) → F (.int n) H') (no : numAt ws t lo hi = none → ∀ H', Same H H' → BadE K H' E (.int ln) (.int t)) :
    tMeth (gW K) "take_number" (spTNum K) [] E (tVar i) ta σ H F := by
  refine ⟨_, hi', p, dx, _, rfl, O.ob, rfl, ht _ ?_⟩
  by_cases h : t < ws.length
  · have na := num_at l0 l1 h0 h1 (hz _ (getD_mem h))
    refine ⟨p, dx, tp, ws, ln, t, lo, hi, numV (ws.getD t "") lo hi, rfl, O, fun e => absurd e (by omega), fun _ => na, ⟨fun e H' s O' => ?_, fun e H' s => ?_⟩⟩
    · unfold numV at e ⊢
      cases en : numW (ws.getD t "") lo hi with
      | none => rw [en] at e; exact absurd e (by decide)
      | some n =>
        obtain ⟨a, b, _⟩ := numW_some en
        exact yes n (by unfold numAt; rw [if_pos h, en]) a b H' s O'
    · unfold numV at e
      cases en : numW (ws.getD t "") lo hi with
      | none => exact no (by unfold numAt; rw [if_pos h, en]) H' s
      | some n =>
        rw [en] at e
        exact absurd e (by simp)
  · have := O.le
    refine ⟨p, dx, tp, ws, ln, t, lo, hi, .non, rfl, O, fun _ => rfl, fun z => absurd z h, ⟨fun e => absurd e (by decide), fun _ H' s => no (by unfold numAt; rw [if_neg h]) H' s⟩⟩
end
end K8
set_option Elab.async false
set_option linter.all false
set_option maxRecDepth 100000
set_option maxHeartbeats 2000000
/-! o.m( *x), x a tuple or a list; C( *x, e); C( *x, k = e) of a class whose __init__ is (self, *v, k=None). -/
namespace Sk
open PySem PySem.Spec PyProof.Rows L2 PySem.W StX
section
variable {M : Model} {A : Around} {E : Value → Shared → Prop} {s : Shared}
theorem evalArgs_two {f : Value} {x y : Sem Value} {b : Bool} {rest : List (Bool × Sem Value)} {Q : Args → Shared → Prop}
    (h : wpAny M A (spliced ((true, x) :: (b, y) :: rest)) (fun vs s' => Q ⟨vs, []⟩ s') E s) : wpAny M A (evalArgs f true ((true, x) :: (b, y) :: rest) []) Q E s := by
  unfold evalArgs
  show wpAny M A (spliced ((true, x) :: (b, y) :: rest) >>= _) Q E s
  refine wpAny_bind (wpAny_mono h (fun vs s' h' => ?_) fun _ _ x => x)
  refine wpAny_holding ?_
  exact wpAny_bind (wpAny_pure (wpAny_bind (wpAny_pure (wpAny_pure h'))))
theorem evalArgs_loneK {f : Value} {x : Sem Value} {pos : Pos} {keywords : List (Option Str × Sem Value)} {Q : Args → Shared → Prop} (hall : keywords.all (·.1.isSome) = true)
    (h : wpAny M A x (fun v s₁ => wpAny M A (evalAll (keywords.map (·.2))) (fun ks s₂ => StarOf M A E v (fun vs s₃ => Q ⟨vs, (keywords.filterMap (·.1)).zip ks⟩ s₃) s₂) E s₁) E s) :
    wpAny M A (evalArgs f true [(true, (do let v ← x; standAt pos; pure v))] keywords) Q E s := by
  unfold evalArgs
  first
    | refine wpAny_bind (wpAny_bind (wpAny_mono h (fun v s₁ h₁ => wpAny_bind (wpAny_standAt (wpAny_pure ?_))) fun _ _ x => x))
    | refine wpAny_bind (wpAny_bind (wpAny_bind (wpAny_mono h (fun v s₁ h₁ => wpAny_bind (wpAny_standAt (wpAny_pure (wpAny_pure ?_)))) fun _ _ x => x)))
  refine wpAny_holding ?_
  simp only [hall, if_true]
  refine wpAny_bind (wpAny_mono h₁ (fun ks s₂ h₂ => ?_) fun _ _ x => x)
  unfold StarOf at h₂
  refine wpAny_bind (wpAny_bind (wpAny_mono h₂ (fun b s₃ h₃ => ?_) fun _ _ x => x))
  obtain ⟨rfl, h₃⟩ := h₃
  have z := wpAny_holding (vs := ((keywords.filterMap (·.1)).zip ks).map (·.2)) (wpAny_mono h₃ (fun vs s₄ h₄ => (wpAny_pure h₄ : wpAny M A (pure (⟨vs, (keywords.filterMap (·.1)).zip ks⟩ : Args)) Q E s₄)) fun _ _ x => x)
  try simp only [Bool.false_eq_true, if_false]
  first
    | exact z
    | exact wpAny_bind (wpAny_pure z)
theorem ks_callK {f : Value} {first : List Value} {pos : Pos} {Q : Value → Shared → Prop} {P : Heap → Prop} {args : List (Bool × Sem Value)} {kws : List (Option Str × Sem Value)} (hst : args.any (·.1) = true)
    (hk : ∀ h, P h → ∃ k, (k = Keeper.frame ∨ k = Keeper.machine ∨ k = Keeper.boundFrame) ∧ Looks M h (keeperOf f) k)
    (h : wpAny M A (evalArgs f true args kws) (fun a s₁ => P s₁.heap ∧ wpAny M A (call f (first ++ a.pos) a.kw) Q E s₁) E s) : wpAny M A (callWith pos f first args kws) Q E s := by
  unfold callWith
  refine wpAny_bind (wpAny_holding (wpAny_mono h (fun a s₁ h₁ => wpAny_bind (wpAny_standAt ?_)) fun _ _ x => x))
  obtain ⟨k, hk', L⟩ := hk _ h₁.1
  simp only [hst, Bool.true_or]
  refine wpAny_bind (L.here ?_)
  have tail : ∀ {t : Sem Value}, wpAny M A t Q E s₁ → wpAny M A (t >>= fun r => holding [r] point >>= fun _ => pure r) Q E s₁ :=
    fun ht => wpAny_bind (wpAny_mono ht (fun r s₂ hr => wpAny_bind (wpAny_holding (wpAny_point (wpAny_pure hr)))) fun _ _ x => x)
  have marked (mk : Value) : wpAny M A (callMarked mk f (first ++ a.pos) a.kw) Q E s₁ := by unfold callMarked; exact Calls.wpAny_keep h₁.2
  rcases hk' with rfl | rfl | rfl <;> dsimp only <;> first | exact tail (marked _) | exact tail (wpAny_operating h₁.2)
end
section
variable {X : Cx} {CX : CXT} {k : Nat} {C g f : Addr} {m x kn : Str} {sp : Sp} {spk : SpK} {E : XK} {o e e2 : Expr} {ta te te2 : TE} {tk : TA} {p p1 apos pos : Pos} {kws : List Keyword}
/-- o.m( *e) -/
def tMethSL (K : PySem.W.Frag) (C : Addr) (m : Str) (g : Addr) (sp : Sp) (E : XK) (ta te : TE) : TE := fun σ H Q => ta σ H fun x H1 => ∃ a dx fs, x = .ref a ∧ H1 a = some (.ins C dx fs) ∧ fs.lookup m = none ∧
  ∀ q, H1 q = none → te σ (upd H1 q (.met g a)) fun y H2 => ∃ b vs, y = .ref b ∧ (SqT K H2 b vs ∨ SqL K H2 b vs) ∧ H2 q = some (.met g a) ∧ sp (.ref a :: vs) H2 Q E
theorem pe_methSL (he : PE X o ta) (c : Cls X.K C) (b : BMeth X.K C m g) (F : FnR X.prog X.w X.K X.mg X.base CX k g sp) (hr : Room k X.A)
    (hx : Passes CX X E) (ha : PE X e te) (hbase : attributeBase o m X.env (eval o X.env) = eval o X.env := by rfl) : PE X (.Call (.Attribute o m apos) [.Starred e p] [] pos) (tMethSL X.K C m g sp E ta te) := by
  refine ⟨fun pins s σ H Q I h => ?_⟩
  refine starcall_of hbase (thn (he.run pins s σ H _ I h) fun u s1 ⟨x, H1, I1, rx, a, dx, fs, ex, ea, l, q⟩ => ?_)
  subst ex
  obtain rfl : u = Value.ref a := rx
  refine getbound_ok I1 ea c b l fun q1 s2 hq1 I2 => ?_
  refine PySem.W.ks_call (P := PySem.W.MethP X.K q1 g (.ref a)) rfl (PySem.W.keeps_M b.fi) (PySem.W.ks_lone ?_)
  refine thn (ha.run pins s2 σ _ _ I2 (q q1 hq1)) fun v s3 ⟨y, H2, I3, ry, t, vs, ey, ht, hm, hsp⟩ => ?_
  subst ey
  obtain rfl : v = Value.ref t := ry
  refine StX.star_any I3 ht fun us s4 I4 rv => ⟨met_P I4 hm, ?_⟩
  exact wpAny_call (PySem.W.method_call (met_P I4 hm).1 (run_fnR (us := Value.ref a :: us) (vs := V.ref a :: vs) F hr hx I4 (.cons rfl rv) hsp))
/-- C( *e, e2) -/
def tStarNew2 (K : Frag) (C : Addr) (sp : Sp) (E : XK) (te te2 : TE) : TE := fun σ H Q => te σ H fun y H1 => ∃ a xs, y = V.ref a ∧ (SqT K H1 a xs ∨ SqL K H1 a xs) ∧ te2 σ H1 fun z H2 => Oo.wNew C sp E (xs ++ [z]) H2 Q
theorem pe_newS2 (M : Mk X.K C f) (F : FnR X.prog X.w X.K X.mg X.base CX k f sp) (hr : Room (k + 1) X.A) (hg : Gl X x) (hm : X.mg x = some (.ref C)) (hx : Passes CX X E) (he : PE X e te) (he2 : PE X e2 te2) (hd : (x == ("__debug__" : Str)) = false := by decide)
    (hst : starEach [.Starred e p, e2] X.env = [(true, eval e X.env), (false, eval e2 X.env)] := by rfl) : PE X (.Call (.Name x p1) [.Starred e p, e2] [] pos) (tStarNew2 X.K C sp E te te2) := by
  refine ⟨fun pins s σ H Q I h => ?_⟩
  refine wpAny_Call_Name_kw (ld_glob I hg hm ?_ hd)
  rw [hst]
  refine ks_callK (P := fun h => X.K.In h) rfl (keeps_K M.kp) (evalArgs_two (PySem.W.ks_spliced (thn (he.run pins s σ H _ I h) fun v s1 ⟨y, H1, I1, ry, a, xs, ey, hxs, q⟩ => ?_)))
  subst ey
  obtain rfl : v = Value.ref a := ry
  refine StX.star_any I1 hxs fun us s2 I2 rv => Calls.spliced_cons (thn (he2.run pins s2 σ H1 _ I2 q) fun u s3 ⟨z, H2, I3, rz, q2⟩ => Calls.spliced_nil ?_)
  exact ⟨I3.kIn, StX.run_makeR M F hr hx I3 (rv.append (.cons rz .nil)) q2⟩
/-- C( *e, k = e2) -/
def tStarSKK (K : Frag) (C : Addr) (sp : SpK) (E : XK) (te : TE) (tk : TA) : TE := fun σ H Q => te σ H fun y H1 => ∃ a xs, y = V.ref a ∧ tk σ H1 fun zs H2 => ∃ u, zs = [u] ∧ (SqT K H2 a xs ∨ SqL K H2 a xs) ∧ wSK C sp E xs u H2 Q
theorem pe_skSK (M : Mk X.K C f) (F : FnSK X.prog X.w X.K X.mg X.base CX k f kn spk) (hr : Room (k + 1) X.A) (hg : Gl X x) (hm : X.mg x = some (.ref C)) (hx : Passes CX X E) (he : PE X e te) (hkw : PK X kws tk)
    (hall : (backToKw pos (keywordEach kws X.env)).all (·.1.isSome) = true := by rfl) (hks : (backToKw pos (keywordEach kws X.env)).filterMap (·.1) = [kn] := by rfl) (hd : (x == ("__debug__" : Str)) = false := by decide)
    (hst : starEach [.Starred e p] X.env = [(true, eval e X.env)] := by rfl) : PE X (.Call (.Name x p1) [.Starred e p] kws pos) (tStarSKK X.K C spk E te tk) := by
  refine ⟨fun pins s σ H Q I h => ?_⟩
  refine wpAny_Call_Name_kw (ld_glob I hg hm ?_ hd)
  rw [hst]
  refine ks_callK (P := fun h => X.K.In h) rfl (keeps_K M.kp) (evalArgs_loneK hall (thn (he.run pins s σ H _ I h) fun v s1 ⟨y, H1, I1, ry, a, xs, ey, q⟩ => ?_))
  subst ey
  obtain rfl : v = Value.ref a := ry
  refine thn (hkw.run pos pins s1 σ H1 _ I1 q) fun ws s2 ⟨zs, H2, I2, rz, u, ez, hxs, q2⟩ => ?_
  obtain ⟨uv, rfl, ru⟩ := kw_one rz ez
  refine StX.star_any I2 hxs fun us s3 I3 rv => ⟨I3.kIn, ?_⟩
  rw [hks]
  exact run_sk M F hr hx I3 rv (.inr ⟨uv, rfl, ru⟩) q2
end
end Sk
set_option Elab.async false
set_option linter.all false
set_option maxRecDepth 100000
set_option maxHeartbeats 2000000
/-! take_mate, take_rising. -/
namespace K8
open PySem PySem.Spec PyProof.Rows L2 RV EV He EF EI
def ArgsR (ts : TA) (σ : L2.St) (H : Hp) (vs : List V) : Prop := ∀ H1, Same H H1 → ∀ F : List V → Hp → Prop, (∀ H2, Same H1 H2 → F vs H2) → ts σ H1 F
theorem args_strs {σ : L2.St} {H : Hp} {ss : List Str} : ArgsR (tStrs ss) σ H (ss.map V.str) := fun H1 s1 F k => strs_run (k H1 same_rfl)
section
variable {K : PySem.W.Frag} {σ : L2.St} {H : Hp} {i t : Nat} {p dx tp : Addr} {ws : List Str} {ln : Int} {ts : TA} {ss : List Str}
theorem nx_test (hi : σ[i]? = some (some (.ref p))) (O : WO K H p dx tp ws ln t) (ha : ArgsR ts σ H (ss.map V.str)) (hz : ss.length ≤ 300) : TestR (tB (tMethR (gW K) "is_next" (spStar (spNext0 K)) E0 (tVar i) ts)) σ H (nextB ws t ss) := fun H1 s1 F k =>
  ⟨_, hi, p, dx, _, rfl, (O.same s1).ob, rfl, ha H1 s1 _ fun H2 s2 => nxt_of ss ((O.same s1).same s2) hz fun H3 s3 => ⟨_, rfl, k H3 (s2.trans s3)⟩⟩
theorem next_nil {ws : List Str} {t : Nat} : nextB ws t [] = decide (t < ws.length) := by
  unfold nextB
  simp
theorem next_one {ws : List Str} {t : Nat} {s : Str} : nextB ws t [s] = isAt ws t s := by
  unfold nextB isAt
  by_cases h : t < ws.length
  · simp [h]
  · simp [h]
end
theorem SameW.of {H H' : Hp} {p : Addr} (s : Same H H') : SameW H H' p := fun c o _ e => s c o e
theorem SameW.trans {H H1 H2 : Hp} {p : Addr} (a : SameW H H1 p) (b : SameW H1 H2 p) : SameW H H2 p := fun c o n e => b c o n (a c o n e)
def spTkM (K : PySem.W.Frag) : Sp := fun vs H Q E => ∃ p dx tp ws ln kind l, vs = [.ref p, .str kind, .int l] ∧ WO K H p dx tp ws ln 2 ∧ (∀ x ∈ ws, x.length ≤ 1000000) ∧ 1 ≤ l ∧ l ≤ 6 ∧
  (∀ n, mateAt ws kind l = some n → ∀ H', SameW H H' p → WO K H' p dx tp ws ln 3 → Q (.int n) H') ∧ (mateAt ws kind l = none → ∀ H', Same H H' → BadE K H' E (.int ln) (.int (2 : Nat)))
section
variable {P : Program} {w : World} {K : PySem.W.Frag} {mg : Str → Option Value} {base : Heap}
abbrev scTM_N : List Str := ["words", "kind", "line"]
theorem scTM : FnScope scTM_N ["words", "kind", "line"] (defScope (top 29)) := ⟨rfl, rfl, rfl, by decide +kernel, rfl, by decide +kernel, by decide +kernel⟩
theorem lenS6 {l : Int} (h : 1 ≤ l) (h2 : l ≤ 6) : (iS l).length ≤ sizeLine := by
  have := (lenS_of (n := l) (by omega) (by omega)).2
  have e : lenS l = (iS l).length := rfl
  rw [← e, this, if_pos (by omega)]
  decide
theorem c_tmate (T : KF P w K mg base) : Callee P w K mg base (L2.CX P w) 6 "take_mate" ["words", "kind", "line"] (spTkM K) := by
  obtain ⟨fd, F, g⟩ := T.tops ("take_mate", 29) (by decide)
  refine ⟨fd, F.ok scTM (fun vs H Q E h => ?_) (fun cdv A outer s H vs Q E hr h => ?_), FunD.bindsN F fun _ _ _ _ _ _ us hl => match us, hl with | [_, _, _], _ => rfl, F.kp, g⟩
  · obtain ⟨p, dx, tp, ws, ln, kind, l, rfl, _⟩ := h
    rfl
  · obtain ⟨p, dx, tp, ws, ln, kind, l, rfl, O, hz, l1, l6, yes, no⟩ := h
    have M := md (w := w) T
    obtain ⟨nx, _, ⟨fR, GR, bR⟩⟩ := M.toMC
    obtain ⟨fN, GN, bN⟩ := M.tn
    obtain ⟨tL, iL⟩ := T.iL
    refine ⟨_, pss_cons (ps_if (pt_cmpR op_ne (pv 1) pe_str (nomark _))
        (pss_one (ps_ret (pe_meth (E := E) (pv 0) T.cl (mt T ("take_number", 8) (by decide)) GN (hr.mono (by decide)) bN .nil (passes_call (takes_of rfl rfl rfl rfl) fun _ _ _ _ h => h) (pa_cons (pe_op op_add (pv 2) pe_int) (pa_cons (pe_glob (v := .int 6) (by rfl) iL ⟨_, rfl⟩) pa_nil))))) pss_nil)
      (pss_cons (ps_if (pt_val (pe_methR (E := E0) (pv 0) T.cl (mt T ("is_next", 5) (by decide)) nx (hr.mono (by decide)) pass0 (pa_cons (pe_callTy call_str_int (by rfl) (T.fr "str" (by decide)) boot_T (pa_cons (pv 2) pa_nil)) pa_nil)))
        (pss_one (ps_expr (pe_meth0 (E := E) (pv 0) T.cl (mt T ("refuse", 11) (by decide)) GR (hr.mono (by decide)) bR .nil (passes_call (takes_of rfl rfl rfl rfl) fun _ _ _ _ h => h)))) pss_nil)
      (pss_one (ps_ret (pe_meth (E := E) (pv 0) T.cl (mt T ("take_number", 8) (by decide)) GN (hr.mono (by decide)) bN .nil (passes_call (takes_of rfl rfl rfl rfl) fun _ _ _ _ h => h) (pa_cons pe_int (pa_cons (pe_glob (v := .int 6) (by rfl) iL ⟨_, rfl⟩) pa_nil)))))), ?_⟩
    have hs : L2.start scTM_N [.ref p, .str kind, .int l] = [some (.ref p), some (.str kind), some (.int l)] := rfl
    rw [hs]
    refine TestR.then (ne_strs (er_v (i := 1) rfl) er_c) (fun e H1 s1 => ?_) (fun e H1 s1 => ?_)
    · have ne : kind ≠ "probe" := fun z => by rw [decide_eq_true z] at e; cases e
      refine num_read (i := 0) (lo := l + 1) (hi := 6) rfl (O.same s1) hz (by omega) (by omega) (by omega) (by omega) (fun G g => ⟨_, rfl, l, 1, rfl, rfl, g⟩) (fun n en _ _ H2 s2 O2 => ?_) (fun en H2 s2 => ?_)
      · exact yes n (by unfold mateAt; rw [if_pos ne]; exact en) H2 (Same.tw s1 s2) O2
      · exact no (by unfold mateAt; rw [if_pos ne]; exact en) H2 (s1.trans s2)
    · have eq : ¬ kind ≠ "probe" := fun z => by rw [decide_eq_false z] at e; cases e
      refine TestR.then (nx_test (ss := [iS l]) (i := 0) rfl (O.same s1) (fun H2 s2 F k => ⟨_, rfl, l, rfl, by
        have := (lenS_of (n := l) (by omega) (by omega)).1
        exact this, k H2 same_rfl⟩) (by show 1 ≤ 300; decide)) (fun e2 H2 s2 => ?_) (fun e2 H2 s2 => ?_)
      · rw [next_one] at e2
        have O2 := (O.same s1).same s2
        exact ⟨_, rfl, p, dx, _, rfl, O2.ob, rfl, p, dx, tp, ws, ln, 2, rfl, O2, no (by unfold mateAt; rw [if_neg eq, if_pos e2]) H2 (s1.trans s2)⟩
      · rw [next_one] at e2
        refine num_read (i := 0) (lo := 1) (hi := 6) rfl ((O.same s1).same s2) hz (by omega) (by omega) (by omega) (by omega) (fun G g => g) (fun n en _ _ H3 s3 O3 => ?_) (fun en H3 s3 => ?_)
        · exact yes n (by unfold mateAt; rw [if_neg eq, if_neg (by rw [e2]; decide)]; exact en) H3 (Same.tw (s1.trans s2) s3) O3
        · exact no (by unfold mateAt; rw [if_neg eq, if_neg (by rw [e2]; decide)]; exact en) H3 ((s1.trans s2).trans s3)
end
end K8
set_option Elab.async false
set_option linter.all false
set_option maxRecDepth 100000
set_option maxHeartbeats 2000000
/-! take_rising. -/
namespace K8
open PySem PySem.Spec PyProof.Rows L2 RV EV He EF EI
def spRis (K : PySem.W.Frag) : Sp := fun vs H Q E => ∃ p dx tp ws ln most, vs = [.ref p, .int most] ∧ WO K H p dx tp ws ln 1 ∧ (∀ x ∈ ws, x.length ≤ 1000000) ∧ 1 ≤ most ∧ most ≤ 200 ∧
  (∀ ns t, risW ws most = .inr (ns, t) → ∀ T H', SameW H H' p → WO K H' p dx tp ws ln t → H' T = some (.tup (ns.map V.int)) → Q (.ref T) H') ∧ (∀ i, risW ws most = .inl i → ∀ H', SameW H H' p → BadE K H' E (.int ln) (.int (i : Nat)))
theorem lastI {ns : List Int} (ne : ns ≠ []) : atI (ns.map V.int) (-1) = some (.int (ns.getLastD 0)) := by
  have hl : 0 < ns.length := List.length_pos_iff.mpr ne
  have h : ns[ns.length - 1]? = some (ns.getLastD 0) := by
    rw [← List.getLast?_eq_getElem?, List.getLastD_eq_getLast?]
    cases e : ns.getLast? with
    | none => exact absurd (List.getLast?_eq_none_iff.mp e) ne
    | some x => rfl
  unfold atI ixN
  rw [if_neg (by decide : ¬ (0 : Int) ≤ -1), if_pos (by rw [List.length_map]; omega : -((ns.map V.int).length : Int) ≤ -1)]
  show (ns.map V.int)[((-1 : Int) + ((ns.map V.int).length : Int)).toNat]? = _
  have e2 : ((-1 : Int) + ((ns.map V.int).length : Int)).toNat = ns.length - 1 := by rw [List.length_map]; omega
  rw [e2, List.getElem?_map, h]
  rfl
theorem WO.upd {K : PySem.W.Frag} {H : Hp} {p dx tp r : Addr} {ws : List Str} {ln : Int} {t : Nat} {xs : List V} {o : HO} (O : WO K H p dx tp ws ln t) (hr : H r = some (.lst xs)) : WO K (upd H r o) p dx tp ws ln t := by
  have n1 : r ≠ p := ne_of hr O.ob (fun z => nomatch z)
  have n2 : r ≠ tp := ne_of hr O.ps (fun z => nomatch z)
  exact ⟨by rw [upd_ne n1.symm]; exact O.ob, by rw [upd_ne n2.symm]; exact O.ps, O.le, O.lz⟩
section
variable {P : Program} {w : World} {K : PySem.W.Frag} {mg : Str → Option Value} {base : Heap}
abbrev scRi_N : List Str := ["words", "most", "named"]
theorem scRi : FnScope scRi_N ["words", "most"] (defScope (top 30)) := ⟨rfl, rfl, rfl, by decide +kernel, rfl, by decide +kernel, by decide +kernel⟩
/-- what the loop holds -/
structure RS (K : PySem.W.Frag) (H : Hp) (p dx tp r : Addr) (ws : List Str) (ln most : Int) (t : Nat) (ns : List Int) (H' : Hp) : Prop where
  o : WO K H' p dx tp ws ln t
  s : SameW H H' p
  l : H' r = some (.lst (ns.map V.int))
  z : H r = none
  ne : ns ≠ []
  lt : ns.length ≤ t
  la : 1 ≤ ns.getLastD 0 ∧ ns.getLastD 0 ≤ most
  rd : ∃ f, ws.length ≤ t + f ∧ risG ws most f ns t = risW ws most
abbrev rTupOf (K : PySem.W.Frag) : List V → Hp → VK → Prop := fun xs H Q => ∃ p ys, xs = [.ref p] ∧ ((SqL K H p ys ∧ ∀ l, H l = none → Q (.ref l) (upd H l (.tup ys))) ∨ (SqT K H p ys ∧ Q (.ref p) H))
abbrev tRiT (K : PySem.W.Frag) : TT := tAnd (tB (tMethR (gW K) "is_next" (spStar (spNext0 K)) E0 (tVar 0) (tStrs []))) (tNot (tB (tMethR (gW K) "is_next" (spStar (spNext0 K)) E0 (tVar 0) (tStrs ["to"]))))
abbrev tRiB (K : PySem.W.Frag) (E : XK) : TS := tDrop (tBM K "list" rAppend (tVar 2) (tCons (tMeth (gW K) "take_number" (spTNum K) [] E (tVar 0) (tCons (tOp (rI0 fun i j => V.int (i + j)) (tOp (rIxL K) (tVar 2) (tUn (rU fun i => V.int (-i)) (tC (V.int 1)))) (tC (V.int 1))) (tCons (tVar 1) tNil))) tNil))
theorem ris_loop (T : KF P w K mg base) {H H1 : Hp} {D : Ends} {E : XK} {p dx tp r : Addr} {ws : List Str} {ln most : Int} {t : Nat} {ns : List Int} (hz : ∀ x ∈ ws, x.length ≤ 1000000) (m1 : 1 ≤ most) (m2 : most ≤ 200) (S : RS K H p dx tp r ws ln most t ns H1)
    (bad : ∀ i, risW ws most = .inl i → ∀ H', SameW H H' p → BadE K H' E (.int ln) (.int (i : Nat)))
    (k : ∀ t ns H', RS K H p dx tp r ws ln most t ns H' → risW ws most = .inr (ns, t) → D.nx [some (.ref p), some (.int most), some (.ref r)] H') :
    tWhile (tRiT K) (tRiB K E) D [some (.ref p), some (.int most), some (.ref r)] H1 := by
  refine ⟨fun n σ H' => σ = [some (.ref p), some (.int most), some (.ref r)] ∧ ∃ t ns, n = ws.length - t ∧ RS K H p dx tp r ws ln most t ns H', ⟨_, rfl, t, ns, rfl, S⟩, ?_⟩
  rintro n σ H2 ⟨rfl, t, ns, rfl, S⟩
  refine TestR.and (a := nextB ws t []) (b := !nextB ws t ["to"]) (nx_test (i := 0) (ss := []) rfl S.o args_strs (by decide)) (TestR.not (nx_test (i := 0) (ss := ["to"]) rfl S.o args_strs (by decide))) H2 same_rfl _ fun H3 s3 => ?_
  rw [next_nil, next_one]
  have S3 : RS K H p dx tp r ws ln most t ns H3 := ⟨S.o.same s3, S.s.tr s3, s3 _ _ S.l, S.z, S.ne, S.lt, S.la, S.rd⟩
  obtain ⟨f, hf, rd⟩ := S.rd
  by_cases h : t < ws.length ∧ ws.getD t "" ≠ "to"
  · have e : (decide (t < ws.length) && !isAt ws t "to") = true := by
      unfold isAt
      rw [decide_eq_true h.1, decide_eq_false (fun z => h.2 z.2)]
      rfl
    rw [e]
    obtain ⟨f, rfl⟩ : ∃ g, f = g + 1 := ⟨f - 1, by omega⟩
    have rd2 : risG ws most (f + 1) ns t = (match numAt ws t (ns.getLastD 0 + 1) most with
      | none => .inl t
      | some n => risG ws most f (ns ++ [n]) (t + 1)) := by
      show (if t < ws.length ∧ ws.getD t "" ≠ "to" then _ else _) = _
      rw [if_pos h]
      try (cases numAt ws t (ns.getLastD 0 + 1) most <;> rfl)
    rw [rd2] at rd
    have le := S.o.le
    have lz := S.o.lz
    have lt := S.lt
    refine if_posB rfl ⟨fun σ' H' => σ' = [some (.ref p), some (.int most), some (.ref r)] ∧ ∃ ns', RS K H p dx tp r ws ln most (t + 1) ns' H', fun σ' H' ⟨e, ns', S'⟩ => ⟨ws.length - (t + 1), by omega, e, t + 1, ns', rfl, S'⟩, ?_⟩
    refine ⟨_, rfl, .inl ⟨rfl, _, SqL.of S3.l⟩, ?_⟩
    refine num_read (i := 0) (lo := ns.getLastD 0 + 1) (hi := most) rfl S3.o hz (by have := S.la; omega) (by have := S.la; omega) m1 m2 (fun G g => ⟨_, rfl, 1, rfl, r, _, -1, _, rfl, rfl, SqL.of S3.l, lastI S.ne, _, _, rfl, rfl, _, rfl, g⟩) (fun n en g1 g2 H4 s4 O4 => ?_) (fun en H4 s4 => ?_)
    · rw [en] at rd
      have n1 : r ≠ p := ne_of S3.l S3.o.ob (fun z => nomatch z)
      have l4 := s4 _ _ n1 S3.l
      refine ⟨r, _, _, rfl, rfl, l4, by rw [List.length_map, sizeLine_eq]; omega, rfl, ns ++ [n], ?_⟩
      refine ⟨O4.upd l4, fun c o hc e => ?_, ?_, S.z, by simp, by rw [List.length_append]; simp; omega, ?_, f, by omega, rd⟩
      · have cr : c ≠ r := fun z => by rw [z, S.z] at e; cases e
        rw [upd_ne cr]
        exact s4 _ _ hc (S3.s c o hc e)
      · rw [upd_same, List.map_append]
        rfl
      · rw [List.getLastD_eq_getLast?, List.getLast?_concat]
        have := S.la
        show 1 ≤ n ∧ n ≤ most
        omega
    · rw [en] at rd
      exact bad t rd.symm H4 (S3.s.tr s4)
  · have e : (decide (t < ws.length) && !isAt ws t "to") = false := by
      unfold isAt
      by_cases a : t < ws.length
      · have b : ws.getD t "" = "to" := Classical.byContradiction fun z => h ⟨a, z⟩
        rw [decide_eq_true a, decide_eq_true ⟨a, b⟩]
        rfl
      · rw [decide_eq_false a]
        rfl
    rw [e]
    refine if_negB rfl (k t ns H3 S3 ?_)
    rw [← rd]
    cases f with
    | zero => rfl
    | succ f =>
      show (if t < ws.length ∧ ws.getD t "" ≠ "to" then _ else _) = _
      rw [if_neg h]
theorem c_rising (T : KF P w K mg base) : Callee P w K mg base (L2.CX P w) 6 "take_rising" ["words", "most"] (spRis K) := by
  obtain ⟨fd, F, g⟩ := T.tops ("take_rising", 30) (by decide)
  refine ⟨fd, F.ok scRi (fun vs H Q E h => ?_) (fun cdv A outer s H vs Q E hr h => ?_), FunD.bindsN F fun _ _ _ _ _ _ us hl => match us, hl with | [_, _], _ => rfl, F.kp, g⟩
  · obtain ⟨p, dx, tp, ws, ln, most, rfl, _⟩ := h
    rfl
  · obtain ⟨p, dx, tp, ws, ln, most, rfl, O, hz, m1, m2, good, bad⟩ := h
    have M := md (w := w) T
    obtain ⟨nx, _, _⟩ := M.toMC
    obtain ⟨fN, GN, bN⟩ := M.tn
    refine ⟨tSeq (tAsg (tLst (tCons (tMeth (gW K) "take_number" (spTNum K) [] E (tVar 0) (tCons (tC (.int 1)) (tCons (tVar 1) tNil))) tNil)) (gName 2)) (tSeq (tWhile (tRiT K) (tRiB K E)) (tRet (tCB (rTupOf K) (tCons (tVar 2) tNil)))),
      pss_cons (ps_set (i := 2) scRi.nd rfl (.inl rfl) (pe_lst (pa_cons (pe_meth (E := E) (pv 0) T.cl (mt T ("take_number", 8) (by decide)) GN (hr.mono (by decide)) bN .nil (passes_call (takes_of rfl rfl rfl rfl) fun _ _ _ _ h => h) (pa_cons pe_int (pa_cons (pv 1) pa_nil))) pa_nil)))
      (pss_cons (ps_while (passes_of rfl) (PW.pt (pw_and (pt_val (pe_meth0R (E := E0) (pv 0) T.cl (mt T ("is_next", 5) (by decide)) nx (hr.mono (by decide)) pass0))
          (pw_and1 (pt_not (pt_val (pe_methR (E := E0) (pv 0) T.cl (mt T ("is_next", 5) (by decide)) nx (hr.mono (by decide)) pass0 (pa_cons pe_str pa_nil)))))))
        (pss_one (ps_expr (pe_bm PySem.F.plainAttrs_list PySem.F.slot_list_append PySem.F.type_list_append mt_append (pv 2)
            (pa_cons (pe_meth (E := E) (pv 0) T.cl (mt T ("take_number", 8) (by decide)) GN (hr.mono (by decide)) bN .nil (passes_call (takes_of rfl rfl rfl rfl) fun _ _ _ _ h => h) (pa_cons (pe_op op_add (pe_ix ix_list (pv 2) (pe_un un_neg pe_int) (fun _ _ => rfl)) pe_int) (pa_cons (pv 1) pa_nil))) pa_nil)))))
      (pss_one (ps_ret (pe_callTy call_tuple_of (by rfl) (T.fr "tuple" (by decide)) boot_T (pa_cons (pv 2) pa_nil))))), ?_⟩
    have hs : L2.start scRi_N [.ref p, .int most] = [some (.ref p), some (.int most), none] := rfl
    rw [hs]
    refine num_read (i := 0) (lo := 1) (hi := most) rfl O hz (by omega) (by omega) m1 m2 (fun G g => ⟨_, rfl, g⟩) (fun n en g1 g2 H1 s1 O1 => ?_) (fun en H1 s1 => ?_)
    · refine ⟨by show 1 ≤ sizeLine; rw [sizeLine_eq]; decide, fun r nr => ?_⟩
      have r0 : H r = none := by
        cases q : H r with
        | none => rfl
        | some o =>
          have nrp : r ≠ p := fun z => by rw [z, O1.ob] at nr; exact nomatch nr
          rw [s1 r o nrp q] at nr
          exact nomatch nr
      have rW : risW ws most = risG ws most ws.length [n] 2 := by
        unfold risW
        rw [en]
      refine ris_loop T hz m1 m2 (t := 2) (ns := [n]) ⟨O1.same (same_new nr), s1.tr (same_new nr), upd_same, r0, by simp, by show 1 ≤ 2; decide, ⟨g1, g2⟩, ws.length, by omega, rW.symm⟩ bad fun t ns H2 S2 e => ?_
      refine ⟨_, rfl, r, _, rfl, .inl ⟨SqL.of S2.l, fun tt nt => ?_⟩⟩
      exact good ns t e tt _ (S2.s.tr (same_new nt)) (S2.o.same (same_new nt)) upd_same
    · exact bad 1 (by unfold risW; rw [en]) H1 (SameW.of s1)
end
end K8
set_option Elab.async false
set_option linter.all false
set_option maxRecDepth 100000
set_option maxHeartbeats 4000000
/-! take_named. -/
namespace K8
open PySem PySem.Spec PyProof.Rows L2 RV EV He EF EI
def spNmd (K : PySem.W.Frag) : Sp := fun vs H Q E => ∃ p dx tp ws ln kind, vs = [.ref p, .str kind] ∧ WO K H p dx tp ws ln 1 ∧ (∀ x ∈ ws, x.length ≤ 1000000) ∧
  (∀ ns t, namedW ws kind = .inr (ns, t) → ∀ T H', SameW H H' p → WO K H' p dx tp ws ln t → H' T = some (.tup ns) → Q (.ref T) H') ∧ (∀ i, namedW ws kind = .inl i → ∀ H', SameW H H' p → BadE K H' E (.int ln) (.int (i : Nat)))
section
variable {P : Program} {w : World} {K : PySem.W.Frag} {mg : Str → Option Value} {base : Heap}
abbrev scNd_N : List Str := ["words", "kind", "fix", "line"]
theorem scNd : FnScope scNd_N ["words", "kind"] (defScope (top 28)) := ⟨rfl, rfl, rfl, by decide +kernel, rfl, by decide +kernel, by decide +kernel⟩
abbrev inB' (kind : Str) (ss : List Str) : Bool := decide (kind ∈ ss)
theorem in_t {σ : L2.St} {H : Hp} {i : Nat} {x : Str} {ss : List Str} (hi : σ[i]? = some (some (.str x))) (hz : ss.length ≤ 1000) : TestR (tTest (tOp (rIn K false) (tVar i) (tTup (tStrs ss)))) σ H (decide (x ∈ ss)) := in_strs (neg := false) (er_v hi) hz
/-- a number alone -/
theorem one_read {σ : L2.St} {H H1 : Hp} {D : Ends} {E : XK} {p dx tp : Addr} {ws : List Str} {ln hi : Int} (h0 : σ[0]? = some (some (.ref p))) (O : WO K H1 p dx tp ws ln 1) (s1 : Same H H1) (hz : ∀ x ∈ ws, x.length ≤ 1000000) (a : 1 ≤ hi) (b : hi ≤ 200)
    (good : ∀ ns t, oneN ws hi = .inr (ns, t) → ∀ T H', SameW H H' p → WO K H' p dx tp ws ln t → H' T = some (.tup ns) → D.rt (.ref T) H') (bad : ∀ i, oneN ws hi = .inl i → ∀ H', SameW H H' p → BadE K H' E (.int ln) (.int (i : Nat))) :
    tRet (tTup (tCons (tMeth (gW K) "take_number" (spTNum K) [] E (tVar 0) (tCons (tC (.int 1)) (tCons (tC (.int hi)) tNil))) tNil)) D σ H1 := by
  refine num_read (i := 0) (lo := 1) (hi := hi) h0 O hz (by omega) (by omega) a b (fun G g => g) (fun n en _ _ H2 s2 O2 => ?_) (fun en H2 s2 => ?_)
  · refine ⟨by show 1 ≤ sizeLine; rw [sizeLine_eq]; decide, fun q nq => ?_⟩
    exact good _ 2 (by unfold oneN; rw [en]) q _ ((Same.tw s1 s2).tr (same_new nq)) (O2.same (same_new nq)) upd_same
  · exact bad 1 (by unfold oneN; rw [en]) H2 (SameW.of (s1.trans s2))
/-- rising numbers -/
theorem ris_read {σ : L2.St} {H H1 : Hp} {D : Ends} {E : XK} {p dx tp : Addr} {ws : List Str} {ln hi : Int} (h0 : σ[0]? = some (some (.ref p))) (O : WO K H1 p dx tp ws ln 1) (s1 : Same H H1) (hz : ∀ x ∈ ws, x.length ≤ 1000000) (a : 1 ≤ hi) (b : hi ≤ 200)
    (good : ∀ ns t, risV ws hi = .inr (ns, t) → ∀ T H', SameW H H' p → WO K H' p dx tp ws ln t → H' T = some (.tup ns) → D.rt (.ref T) H') (bad : ∀ i, risV ws hi = .inl i → ∀ H', SameW H H' p → BadE K H' E (.int ln) (.int (i : Nat))) :
    tRet (tCall (spRis K) [] E (tCons (tVar 0) (tCons (tC (.int hi)) tNil))) D σ H1 := by
  refine ⟨_, h0, p, dx, tp, ws, ln, hi, rfl, O, hz, a, b, fun ns t e T H' s' O' hT => ?_, fun i e H' s' => ?_⟩
  · exact good _ t (by unfold risV; rw [e]) T H' (Same.tw s1 s') O' hT
  · exact bad i (by unfold risV; rw [e]) H' (Same.tw s1 s')
theorem c_named (T : KF P w K mg base) : Callee P w K mg base (L2.CX P w) 7 "take_named" ["words", "kind"] (spNmd K) := by
  obtain ⟨fd, F, g⟩ := T.tops ("take_named", 28) (by decide)
  refine ⟨fd, F.ok scNd (fun vs H Q E h => ?_) (fun cdv A outer s H vs Q E hr h => ?_), FunD.bindsN F fun _ _ _ _ _ _ us hl => match us, hl with | [_, _], _ => rfl, F.kp, g⟩
  · obtain ⟨p, dx, tp, ws, ln, kind, rfl, _⟩ := h
    rfl
  · obtain ⟨p, dx, tp, ws, ln, kind, rfl, O, hz, good, bad⟩ := h
    have M := md (w := w) T
    obtain ⟨fF, GF, bF⟩ := M.tf
    obtain ⟨fN, GN, bN⟩ := M.tn
    obtain ⟨fM, GM, bM, kM, gM⟩ := c_tmate (w := w) T
    obtain ⟨fR, GR, bR, kR, gR⟩ := c_rising (w := w) T
    obtain ⟨tL, iL⟩ := T.iL
    obtain ⟨tD, iD⟩ := T.iD
    refine ⟨_, pss_cons (ps_if (pt_cmpR op_in_seq (pv 1) (pe_tup (pa_cons pe_str (pa_cons pe_str pa_nil))) rfl)
        (pss_one (ps_ret (pe_tup (pa_cons (pe_meth0 (E := E) (pv 0) T.cl (mt T ("take_fix", 7) (by decide)) GF (hr.mono (by decide)) bF .nil (passes_call (takes_of rfl rfl rfl rfl) fun _ _ _ _ h => h)) pa_nil)))) pss_nil)
      (pss_cons (ps_if (pt_cmpR op_in_seq (pv 1) (pe_tup (pa_cons pe_str (pa_cons pe_str pa_nil))) rfl)
        (pss_cons (ps_set (i := 2) scNd.nd rfl (.inl rfl) (pe_meth0 (E := E) (pv 0) T.cl (mt T ("take_fix", 7) (by decide)) GF (hr.mono (by decide)) bF .nil (passes_call (takes_of rfl rfl rfl rfl) fun _ _ _ _ h => h)))
          (pss_one (ps_ret (pe_tup (pa_cons (pv 2) (pa_cons (pe_meth (E := E) (pv 0) T.cl (mt T ("take_number", 8) (by decide)) GN (hr.mono (by decide)) bN .nil (passes_call (takes_of rfl rfl rfl rfl) fun _ _ _ _ h => h) (pa_cons pe_int (pa_cons (pe_glob (v := .int 6) (by rfl) iL ⟨_, rfl⟩) pa_nil))) pa_nil)))))) pss_nil)
      (pss_cons (ps_if (pt_cmpR op_eq (pv 1) pe_str (nomark _)) (pss_one (ps_ret (pe_tup pa_nil))) pss_nil)
      (pss_cons (ps_if (pt_cmpR op_in_seq (pv 1) (pe_tup (pa_cons pe_str (pa_cons pe_str (pa_cons pe_str pa_nil)))) rfl)
        (pss_cons (ps_set (i := 3) scNd.nd rfl (.inl rfl) (pe_meth (E := E) (pv 0) T.cl (mt T ("take_number", 8) (by decide)) GN (hr.mono (by decide)) bN .nil (passes_call (takes_of rfl rfl rfl rfl) fun _ _ _ _ h => h) (pa_cons pe_int (pa_cons (pe_glob (v := .int 6) (by rfl) iL ⟨_, rfl⟩) pa_nil))))
          (pss_one (ps_ret (pe_tup (pa_cons (pv 3) (pa_cons (pe_call (E := E) GM (hr.mono (by decide)) (by rfl) gM kM bM .nil (passes_call (takes_of rfl rfl rfl rfl) fun _ _ _ _ h => h) (pa_cons (pv 0) (pa_cons (pv 1) (pa_cons (pv 3) pa_nil)))) pa_nil)))))) pss_nil)
      (pss_cons (ps_if (pt_cmpR op_in_seq (pv 1) (pe_tup (pa_cons pe_str (pa_cons pe_str pa_nil))) rfl)
        (pss_one (ps_ret (pe_tup (pa_cons (pe_meth (E := E) (pv 0) T.cl (mt T ("take_number", 8) (by decide)) GN (hr.mono (by decide)) bN .nil (passes_call (takes_of rfl rfl rfl rfl) fun _ _ _ _ h => h) (pa_cons pe_int (pa_cons (pe_glob (v := .int 200) (by rfl) iD ⟨_, rfl⟩) pa_nil))) pa_nil)))) pss_nil)
      (pss_cons (ps_if (pt_cmpR op_eq (pv 1) pe_str (nomark _))
        (pss_one (ps_ret (pe_call (E := E) GR (hr.mono (by decide)) (by rfl) gR kR bR .nil (passes_call (takes_of rfl rfl rfl rfl) fun _ _ _ _ h => h) (pa_cons (pv 0) (pa_cons (pe_glob (v := .int 200) (by rfl) iD ⟨_, rfl⟩) pa_nil))))) pss_nil)
      (pss_cons (ps_if (pt_cmpR op_in_seq (pv 1) (pe_tup (pa_cons pe_str (pa_cons pe_str pa_nil))) rfl)
        (pss_one (ps_ret (pe_call (E := E) GR (hr.mono (by decide)) (by rfl) gR kR bR .nil (passes_call (takes_of rfl rfl rfl rfl) fun _ _ _ _ h => h) (pa_cons (pv 0) (pa_cons (pe_glob (v := .int 6) (by rfl) iL ⟨_, rfl⟩) pa_nil))))) pss_nil)
      (pss_one (ps_ret (pe_tup (pa_cons (pe_meth (E := E) (pv 0) T.cl (mt T ("take_number", 8) (by decide)) GN (hr.mono (by decide)) bN .nil (passes_call (takes_of rfl rfl rfl rfl) fun _ _ _ _ h => h) (pa_cons pe_int (pa_cons (pe_glob (v := .int 6) (by rfl) iL ⟨_, rfl⟩) pa_nil))) pa_nil)))))))))), ?_⟩
    have hs : L2.start scNd_N [.ref p, .str kind] = [some (.ref p), some (.str kind), none, none] := rfl
    rw [hs]
    refine TestR.then (in_t (i := 1) (ss := ["fix", "unfix"]) rfl (by decide)) (fun e H1 s1 => ?_) (fun e H1 s1 => ?_)
    · have c1 := of_decide_eq_true e
      refine fix_read (i := 0) rfl (O.same s1) hz (fun x ex H2 s2 O2 => ?_) (fun ex H2 s2 => ?_)
      · refine ⟨by show 1 ≤ sizeLine; rw [sizeLine_eq]; decide, fun q nq => ?_⟩
        exact good _ 2 (by unfold namedW; rw [if_pos c1, ex]) q _ ((Same.tw s1 s2).tr (same_new nq)) (O2.same (same_new nq)) upd_same
      · exact bad 1 (by unfold namedW; rw [if_pos c1, ex]) H2 (SameW.of (s1.trans s2))
    have c1 := of_decide_eq_false e
    refine TestR.then (in_t (i := 1) (ss := ["carry", "drop"]) rfl (by decide)) (fun e H2 s2 => ?_) (fun e H2 s2 => ?_)
    · have c2 := of_decide_eq_true e
      have s2 := s1.trans s2
      refine fix_read (i := 0) rfl (O.same s2) hz (fun x ex H3 s3 O3 => ?_) (fun ex H3 s3 => ?_)
      · refine ⟨_, rfl, num_read (i := 0) (lo := 1) (hi := 6) rfl O3 hz (by omega) (by omega) (by omega) (by omega) (fun G g => g) (fun n en _ _ H4 s4 O4 => ?_) (fun en H4 s4 => ?_)⟩
        · refine ⟨by show 2 ≤ sizeLine; rw [sizeLine_eq]; decide, fun q nq => ?_⟩
          exact good _ 3 (by unfold namedW; rw [if_neg c1, if_pos c2, ex]; simp only []; rw [en]) q _ (((Same.tw s2 s3).trans s4).tr (same_new nq)) (O4.same (same_new nq)) upd_same
        · exact bad 2 (by unfold namedW; rw [if_neg c1, if_pos c2, ex]; simp only []; rw [en]) H4 ((Same.tw s2 s3).tr s4)
      · exact bad 1 (by unfold namedW; rw [if_neg c1, if_pos c2, ex]) H3 (SameW.of (s2.trans s3))
    have c2 := of_decide_eq_false e
    have s2 := s1.trans s2
    refine TestR.then (eq_strs (er_v (i := 1) rfl) er_c) (fun e H3 s3 => ?_) (fun e H3 s3 => ?_)
    · have c3 := of_decide_eq_true e
      refine ⟨by show 0 ≤ sizeLine; rw [sizeLine_eq]; decide, fun q nq => ?_⟩
      exact good _ 1 (by unfold namedW; rw [if_neg c1, if_neg c2, if_pos c3]) q _ (SameW.of ((s2.trans s3).trans (same_new nq))) (((O.same s2).same s3).same (same_new nq)) upd_same
    have c3 := of_decide_eq_false e
    have s3 := s2.trans s3
    refine TestR.then (in_t (i := 1) (ss := ["try", "probe", "meet"]) rfl (by decide)) (fun e H4 s4 => ?_) (fun e H4 s4 => ?_)
    · have c4 := of_decide_eq_true e
      have s4 := s3.trans s4
      refine num_read (i := 0) (lo := 1) (hi := 6) rfl (O.same s4) hz (by omega) (by omega) (by omega) (by omega) (fun G g => g) (fun l el g1 g2 H5 s5 O5 => ?_) (fun el H5 s5 => ?_)
      · refine ⟨_, rfl, _, rfl, _, rfl, _, rfl, p, dx, tp, ws, ln, kind, l, rfl, O5, hz, g1, g2, fun m em H6 s6 O6 => ?_, fun em H6 s6 => ?_⟩
        · refine ⟨by show 2 ≤ sizeLine; rw [sizeLine_eq]; decide, fun q nq => ?_⟩
          exact good _ 3 (by unfold namedW; rw [if_neg c1, if_neg c2, if_neg c3, if_pos c4, el]; simp only []; rw [em]) q _ (((Same.tw s4 s5).trans s6).tr (same_new nq)) (O6.same (same_new nq)) upd_same
        · exact bad 2 (by unfold namedW; rw [if_neg c1, if_neg c2, if_neg c3, if_pos c4, el]; simp only []; rw [em]) H6 ((Same.tw s4 s5).tr s6)
      · exact bad 1 (by unfold namedW; rw [if_neg c1, if_neg c2, if_neg c3, if_pos c4, el]) H5 (SameW.of (s4.trans s5))
    have c4 := of_decide_eq_false e
    have s4 := s3.trans s4
    refine TestR.then (in_t (i := 1) (ss := ["redo", "shut"]) rfl (by decide)) (fun e H5 s5 => ?_) (fun e H5 s5 => ?_)
    · have c5 := of_decide_eq_true e
      have nw : namedW ws kind = oneN ws 200 := by unfold namedW; rw [if_neg c1, if_neg c2, if_neg c3, if_neg c4, if_pos c5]
      rw [nw] at good bad
      exact one_read rfl (O.same (s4.trans s5)) (s4.trans s5) hz (by decide) (by decide) good bad
    have c5 := of_decide_eq_false e
    have s5 := s4.trans s5
    refine TestR.then (eq_strs (er_v (i := 1) rfl) er_c) (fun e H6 s6 => ?_) (fun e H6 s6 => ?_)
    · have c6 := of_decide_eq_true e
      have nw : namedW ws kind = risV ws 200 := by unfold namedW; rw [if_neg c1, if_neg c2, if_neg c3, if_neg c4, if_neg c5, if_pos c6]
      rw [nw] at good bad
      exact ris_read rfl (O.same (s5.trans s6)) (s5.trans s6) hz (by decide) (by decide) good bad
    have c6 := of_decide_eq_false e
    have s6 := s5.trans s6
    refine TestR.then (in_t (i := 1) (ss := ["rise", "night"]) rfl (by decide)) (fun e H7 s7 => ?_) (fun e H7 s7 => ?_)
    · have c7 := of_decide_eq_true e
      have nw : namedW ws kind = risV ws 6 := by unfold namedW; rw [if_neg c1, if_neg c2, if_neg c3, if_neg c4, if_neg c5, if_neg c6, if_pos c7]
      rw [nw] at good bad
      exact ris_read rfl (O.same (s6.trans s7)) (s6.trans s7) hz (by decide) (by decide) good bad
    have c7 := of_decide_eq_false e
    have s7 := s6.trans s7
    have nw : namedW ws kind = oneN ws 6 := by unfold namedW; rw [if_neg c1, if_neg c2, if_neg c3, if_neg c4, if_neg c5, if_neg c6, if_neg c7]
    rw [nw] at good bad
    exact one_read rfl (O.same s7) s7 hz (by decide) (by decide) good bad
end
end K8
set_option Elab.async false
set_option linter.all false
set_option maxRecDepth 100000
set_option maxHeartbeats 1000000
/-! A list comprehension whose test and whose element change nothing that was there. -/
namespace K8
open PySem PySem.Spec PyProof.Rows L2 RV EV He EF EI LamX NdefX
theorem lc_gen {α : Type} {J : It} {G : Hp → Prop} {Y : Nat → Hp → V → Hp → Prop} {enc out : α → V} {p : α → Bool} {ns : List α} {i : Nat} {σ : L2.St} {H1 : Hp} {tt : TT} {te : TE} {D : Addr} {Qd : Hp → Prop} (nD : H1 D = none) (w : Walk J ns.length G Y) (hn : ns.length ≤ 1000)
    (hY : ∀ n x H H', Y n H x H' → H' = H ∧ ∃ z, ns[n]? = some z ∧ x = enc z) (hG : ∀ H', Same H1 H' → G H') (hw : ∀ v, wipe ((wipe σ [i]).set i (some v)) [i] = wipe σ [i])
    (ht : ∀ z ∈ ns, ∀ (H' : Hp) (F : Bool → Hp → Prop), Same H1 H' → (∀ H'', Same H' H'' → F (p z) H'') → tt ((wipe σ [i]).set i (some (enc z))) H' F)
    (he : ∀ z ∈ ns, p z = true → ∀ (H' : Hp) (F : VK), Same H1 H' → (∀ H'', Same H' H'' → F (out z) H'') → te ((wipe σ [i]).set i (some (enc z))) H' F)
    (k : ∀ H', Same H1 H' → H' D = some (.lst ((ns.filter p).map out)) → Qd H') :
    ∃ W : Nat → Nat → Hp → Prop, (∃ m, W 0 m (upd H1 D (.lst []))) ∧ ∀ n m H, W n m H →
      (J.stop n H ∧ Qd H) ∨ (J.go n H ∧ ∃ Nx : Hp → Prop, (∀ H', Nx H' → ∃ m', m' < m ∧ W (n + 1) m' H') ∧ ∀ x H', J.yld n H x H' → gName i x (wipe σ [i]) H' fun σ2 H2 => wipe σ2 [i] = wipe σ [i] ∧ tt σ2 H2 fun b H3 =>
        if b = true then te σ2 H3 fun y H4 => ∃ acc, H4 D = some (.lst acc) ∧ acc.length < sizeLine ∧ Nx (upd H4 D (.lst (acc ++ [y]))) else Nx H3) := by
  have keep : ∀ {H' : Hp} {o : HO}, Same H1 H' → Same H1 (upd H' D o) := fun s c u e => by
    rw [upd_ne (ne_of_none e nD)]
    exact s c u e
  refine lc_it w (fun n H' => Same H1 H' ∧ H' D = some (.lst (((ns.take n).filter p).map out))) ⟨keep fun _ _ e => e, upd_same⟩ (fun n H' _ q => hG H' q.1) ?_ ?_
  · rintro n x H H' hi ⟨s1, hD⟩ hy
    obtain ⟨rfl, z, hz, rfl⟩ := hY n x H H' hy
    obtain ⟨hl, hv⟩ := List.getElem?_eq_some_iff.mp hz
    have more : ns.take (n + 1) = ns.take n ++ [z] := by rw [← hv]; exact List.take_succ_eq_append_getElem hl
    have mem : z ∈ ns := by rw [← hv]; exact List.getElem_mem hl
    have es : (ns.take (n + 1)).filter p = (ns.take n).filter p ++ (if p z = true then [z] else []) := by
      rw [more, List.filter_append]
      congr 1
      by_cases h : p z = true
      · rw [if_pos h, List.filter_cons, if_pos h, List.filter_nil]
      · rw [if_neg h, List.filter_cons, if_neg h, List.filter_nil]
    refine ⟨hw _, ht z mem _ _ s1 fun H2 s2 => ?_⟩
    by_cases h : p z = true
    · refine if_posB h (he z mem h _ _ (s1.trans s2) fun H3 s3 => ⟨_, s3 _ _ (s2 _ _ hD), ?_, keep ((s1.trans s2).trans s3), ?_⟩)
      · have l1 : ((ns.take n).filter p).length ≤ (ns.take n).length := List.length_filter_le _ _
        rw [List.length_take] at l1
        rw [List.length_map, sizeLine_eq]
        omega
      · rw [upd_same, es, if_pos h, List.map_append]
        rfl
    · refine if_negB (Bool.not_eq_true _ ▸ h) ⟨s1.trans s2, ?_⟩
      rw [es, if_neg h, List.append_nil]
      exact s2 _ _ hD
  · rintro H ⟨s, hD⟩
    rw [List.take_of_length_le (Nat.le_refl _)] at hD
    exact k H s hD
theorem at_map {α : Type} {enc : α → V} {ns : List α} : ∀ n x H H', YAt (ns.map enc) n H x H' → H' = H ∧ ∃ z, ns[n]? = some z ∧ x = enc z := by
  rintro n x H H' ⟨rfl, hx⟩
  rw [List.getElem?_map] at hx
  cases e : ns[n]? with
  | none => rw [e] at hx; exact nomatch hx
  | some z =>
    rw [e] at hx
    exact ⟨rfl, z, rfl, (Option.some.inj hx).symm⟩
section
variable {α : Type} {K : PySem.W.Frag} {enc out : α → V} {p : α → Bool} {ns : List α} {i : Nat} {σ : L2.St} {H1 : Hp} {tt : TT} {te : TE} {D : Addr} {Qd : Hp → Prop} {a : Addr}
/-- what is asked of a comprehension's test and element -/
structure LcOk {α : Type} (enc out : α → V) (p : α → Bool) (ns : List α) (i : Nat) (σ : L2.St) (H1 : Hp) (tt : TT) (te : TE) (D : Addr) (Qd : Hp → Prop) : Prop where
  nD : H1 D = none
  hn : ns.length ≤ 1000
  hw : ∀ v, wipe ((wipe σ [i]).set i (some v)) [i] = wipe σ [i]
  ht : ∀ z ∈ ns, ∀ (H' : Hp) (F : Bool → Hp → Prop), Same H1 H' → (∀ H'', Same H' H'' → F (p z) H'') → tt ((wipe σ [i]).set i (some (enc z))) H' F
  he : ∀ z ∈ ns, p z = true → ∀ (H' : Hp) (F : VK), Same H1 H' → (∀ H'', Same H' H'' → F (out z) H'') → te ((wipe σ [i]).set i (some (enc z))) H' F
  k : ∀ H', Same H1 H' → H' D = some (.lst ((ns.filter p).map out)) → Qd H'
abbrev LcGo (J : It) (i : Nat) (σ : L2.St) (H1 : Hp) (tt : TT) (te : TE) (D : Addr) (Qd : Hp → Prop) : Prop := ∃ W : Nat → Nat → Hp → Prop, (∃ m, W 0 m (upd H1 D (.lst []))) ∧ ∀ n m H, W n m H →
      (J.stop n H ∧ Qd H) ∨ (J.go n H ∧ ∃ Nx : Hp → Prop, (∀ H', Nx H' → ∃ m', m' < m ∧ W (n + 1) m' H') ∧ ∀ x H', J.yld n H x H' → gName i x (wipe σ [i]) H' fun σ2 H2 => wipe σ2 [i] = wipe σ [i] ∧ tt σ2 H2 fun b H3 =>
        if b = true then te σ2 H3 fun y H4 => ∃ acc, H4 D = some (.lst acc) ∧ acc.length < sizeLine ∧ Nx (upd H4 D (.lst (acc ++ [y]))) else Nx H3)
/-- over a list -/
theorem lcl (hl : ∀ H', Same H1 H' → SqL K H' a (ns.map enc)) (o : LcOk enc out p ns i σ H1 tt te D Qd) : LcGo (Itl K a) i σ H1 tt te D Qd :=
  lc_gen o.nD (w := by have w := walk_list (K := K) (a := a) (xs := ns.map enc); rw [List.length_map] at w; exact w) o.hn at_map (fun H' s => hl H' s) o.hw o.ht o.he o.k
/-- over a tuple -/
theorem lct (hl : ∀ H', Same H1 H' → SqT K H' a (ns.map enc)) (o : LcOk enc out p ns i σ H1 tt te D Qd) : LcGo (Itt K a) i σ H1 tt te D Qd :=
  lc_gen o.nD (w := by have w := walk_tup (K := K) (a := a) (xs := ns.map enc); rw [List.length_map] at w; exact w) o.hn at_map (fun H' s => hl H' s) o.hw o.ht o.he o.k
theorem tests_yes {z : α} {σ : L2.St} {H' : Hp} {F : Bool → Hp → Prop} (k : ∀ H'', Same H' H'' → F ((fun _ : α => true) z) H'') : tYes σ H' F := k H' fun _ _ e => e
theorem all_yes (ns : List α) : ns.filter (fun _ => true) = ns := List.filter_eq_self.mpr fun _ _ => rfl
end
end K8
set_option Elab.async false
set_option linter.all false
set_option maxRecDepth 100000
set_option maxHeartbeats 1000000
/-! Rows as they are told: comprehensions, slices, joins. -/
namespace K8
open PySem PySem.Spec PyProof.Rows L2 RV EV He EF EI
def AtT (xs : List V) : V → Hp → Prop := fun v H => ∃ a, v = .ref a ∧ H a = some (.tup xs)
def AtL (xs : List V) : V → Hp → Prop := fun v H => ∃ a, v = .ref a ∧ H a = some (.lst xs)
theorem stb_t {xs : List V} : Stb (AtT xs) := fun _ _ _ s ⟨a, e, h⟩ => ⟨a, e, s _ _ h⟩
theorem stb_l {xs : List V} : Stb (AtL xs) := fun _ _ _ s ⟨a, e, h⟩ => ⟨a, e, s _ _ h⟩
section
variable {α : Type} {K : PySem.W.Frag} {σ : L2.St} {H : Hp} {ta tb te : TE} {tt : TT} {enc out : α → V} {p : α → Bool} {ns : List α} {i : Nat} {xs ys : List V}
theorem er_lct (ha : ER ta σ H (AtT (ns.map enc))) (hn : ns.length ≤ 1000) (hw : ∀ v, wipe ((wipe σ [i]).set i (some v)) [i] = wipe σ [i])
    (ht : ∀ z ∈ ns, ∀ H1, Same H H1 → TestR tt ((wipe σ [i]).set i (some (enc z))) H1 (p z)) (he : ∀ z ∈ ns, p z = true → ∀ H1, Same H H1 → ER te ((wipe σ [i]).set i (some (enc z))) H1 (IsV (out z))) :
    ER (tLc (iTup K ta) (gName i) tt te [i]) σ H (AtL ((ns.filter p).map out)) := fun H1 s1 F k => ha H1 s1 _ fun v H2 s2 ⟨a, e, h⟩ => by
  obtain rfl := e
  refine ⟨a, rfl, ⟨_, SqT.of h⟩, fun D nD => ?_⟩
  have s12 := s1.trans s2
  exact lct (K := K) (a := a) (σ := σ) (i := i) (tt := tt) (te := te) (p := p) (enc := enc) (out := out) (ns := ns) (Qd := F (.ref D)) (fun H' s => SqT.of (s _ _ h))
    ⟨nD, hn, hw, fun z hz H3 F3 s3 k3 => ht z hz H3 (s12.trans s3) H3 same_rfl F3 k3, fun z hz hp H3 F3 s3 k3 => he z hz hp H3 (s12.trans s3) H3 same_rfl F3 fun u H4 s4 e => by rw [e]; exact k3 H4 s4, fun H3 s3 h3 => k _ H3 (s2.trans s3) ⟨D, rfl, h3⟩⟩
theorem er_lcl (ha : ER ta σ H (AtL (ns.map enc))) (hn : ns.length ≤ 1000) (hw : ∀ v, wipe ((wipe σ [i]).set i (some v)) [i] = wipe σ [i])
    (ht : ∀ z ∈ ns, ∀ H1, Same H H1 → TestR tt ((wipe σ [i]).set i (some (enc z))) H1 (p z)) (he : ∀ z ∈ ns, p z = true → ∀ H1, Same H H1 → ER te ((wipe σ [i]).set i (some (enc z))) H1 (IsV (out z))) :
    ER (tLc (iList K ta) (gName i) tt te [i]) σ H (AtL ((ns.filter p).map out)) := fun H1 s1 F k => ha H1 s1 _ fun v H2 s2 ⟨a, e, h⟩ => by
  obtain rfl := e
  refine ⟨a, rfl, ⟨_, SqL.of h⟩, fun D nD => ?_⟩
  have s12 := s1.trans s2
  exact lcl (K := K) (a := a) (σ := σ) (i := i) (tt := tt) (te := te) (p := p) (enc := enc) (out := out) (ns := ns) (Qd := F (.ref D)) (fun H' s => SqL.of (s _ _ h))
    ⟨nD, hn, hw, fun z hz H3 F3 s3 k3 => ht z hz H3 (s12.trans s3) H3 same_rfl F3 k3, fun z hz hp H3 F3 s3 k3 => he z hz hp H3 (s12.trans s3) H3 same_rfl F3 fun u H4 s4 e => by rw [e]; exact k3 H4 s4, fun H3 s3 h3 => k _ H3 (s2.trans s3) ⟨D, rfl, h3⟩⟩
theorem ER.asg {R : V → Hp → Prop} {D : Ends} {SR : TS} (h : ER ta σ H R) (k : ∀ v H', Same H H' → R v H' → SR D (σ.set i (some v)) H') : tSeq (tAsg ta (gName i)) SR D σ H := h.go k
theorem yes_test {σ : L2.St} {H : Hp} : TestR tYes σ H true := fun H1 s1 F k => k H1 same_rfl
theorem er_ix {K : PySem.W.Frag} {j : Int} {y : V} (ha : ER ta σ H (AtL xs)) (hj : atI xs j = some y) (hb : ER tb σ H (IsV (.int j))) : ER (tOp (rIxL K) ta tb) σ H (IsV y) :=
  ha.op stb_l hb fun u v H1 F s ⟨a, e1, h⟩ e2 k => by
    obtain rfl := e1
    obtain rfl := e2
    exact ⟨a, xs, j, y, rfl, rfl, SqL.of h, hj, k _ H1 same_rfl rfl⟩
end
end K8
set_option Elab.async false
set_option linter.all false
set_option maxRecDepth 100000
set_option maxHeartbeats 4000000
/-! take_stop. -/
namespace K8
open PySem PySem.Spec PyProof.Rows L2 RV EV He EF EI
def pickS (ns : List Int) (ws : List Str) (t : Nat) : Option Int := if t < ws.length then ns.dropLast.find? (fun n => decide (iS n = ws.getD t "")) else none
def stopW (ws : List Str) (kind : Str) (ns : List V) (t : Nat) : Nat ⊕ (V × Nat) :=
  if kind = "merge" ∧ isAt ws t "to" = true then (match fixAt ws (t + 1) with
    | none => .inl (t + 1)
    | some x => .inr (.str x, t + 2))
  else if kind ∈ (["rise", "night", "renew"] : List Str) ∧ (1 < ns.length ∧ isAt ws t "to" = true) then (match pickS (ns.map intV) ws (t + 1) with
    | none => .inl (t + 1)
    | some n => .inr (.int n, t + 2))
  else .inr (.non, t)
def RisK (kind : Str) (ns : List V) : Prop := kind ∈ (["rise", "night", "renew"] : List Str) → ∃ is : List Int, ns = is.map V.int ∧ ∀ i ∈ is, 0 ≤ i ∧ i ≤ 200
def spStp (K : PySem.W.Frag) : Sp := fun vs H Q E => ∃ p dx tp ws ln t T kind ns, vs = [.ref p, .str kind, .ref T] ∧ WO K H p dx tp ws ln t ∧ (∀ x ∈ ws, x.length ≤ 1000000) ∧ H T = some (.tup ns) ∧ ns.length ≤ 300 ∧ RisK kind ns ∧
  (∀ v t', stopW ws kind ns t = .inr (v, t') → ∀ H', SameW H H' p → WO K H' p dx tp ws ln t' → Q v H') ∧ (∀ i, stopW ws kind ns t = .inl i → ∀ H', SameW H H' p → BadE K H' E (.int ln) (.int (i : Nat)))
section
variable {P : Program} {w : World} {K : PySem.W.Frag} {mg : Str → Option Value} {base : Heap}
abbrev scSp_N : List Str := ["words", "kind", "named", "stops", "number"]
theorem scSp : FnScope scSp_N ["words", "kind", "named"] (defScope (top 31)) := ⟨rfl, rfl, rfl, by decide +kernel, rfl, by decide +kernel, by decide +kernel⟩
/-- words.take(), a word is there -/
theorem take_read {σ : L2.St} {H : Hp} {i t : Nat} {p dx tp : Addr} {ws : List Str} {ln : Int} {E : XK} {F : VK} (hi : σ[i]? = some (some (.ref p))) (O : WO K H p dx tp ws ln t) (h : t < ws.length) (k : ∀ v H', SameW H H' p → WO K H' p dx tp ws ln (t + 1) → F v H') :
    tMethR (gW K) "take" (spStar (spTake0 K)) E (tVar i) tNil σ H F := by
  refine ⟨_, hi, p, dx, _, rfl, O.ob, rfl, tak_of [] O (by decide) ⟨fun _ H' s O' => k _ H' s O', fun e => ?_⟩⟩
  rw [next_nil, decide_eq_true h] at e
  cases e
theorem isAt_lt {ws : List Str} {t : Nat} {s : Str} (h : isAt ws t s = true) : t < ws.length := (of_decide_eq_true h).1
theorem lenV {i : Int} (h : 0 ≤ i ∧ i ≤ 200) : i.natAbs.log2 < 1920 ∧ (iS i).length ≤ 640 ∧ PySem.intText? (iS i) = some i := by
  obtain ⟨a, b⟩ := lenS_of (n := i) h.1 (by omega)
  refine ⟨a, ?_, (iS_text h.1 (by omega)).2⟩
  have e : lenS i = (iS i).length := rfl
  rw [← e, b]
  repeat' split
  all_goals omega
abbrev rLenS (K : PySem.W.Frag) : List V → Hp → VK → Prop := fun xs H Q => ∃ p ys, xs = [V.ref p] ∧ (SqL K H p ys ∨ SqT K H p ys) ∧ Q (V.int ys.length) H
abbrev rStrI : List V → Hp → VK → Prop := fun xs H Q => ∃ i, xs = [V.int i] ∧ i.natAbs.log2 < 1920 ∧ Q (V.str (toString i)) H
theorem er_strI {σ : L2.St} {H : Hp} {te : TE} {i : Int} (h : ER te σ H (IsV (.int i))) (hi : 0 ≤ i ∧ i ≤ 200) : ER (tCB rStrI (tCons te tNil)) σ H (IsV (.str (iS i))) :=
  h.cb fun x H1 F s e k => by
    obtain rfl := e
    exact ⟨i, rfl, (lenV hi).1, k _ H1 same_rfl rfl⟩
theorem er_cutl {σ : L2.St} {H : Hp} {te : TE} {is : List Int} (h : ER te σ H (AtT (is.map V.int))) (ne : is ≠ []) : ER (tSl (rSlT K) te tNoPart (tPart (tUn (rU fun i => V.int (-i)) (tC (V.int 1))))) σ H (AtT (is.dropLast.map V.int)) := fun H1 s1 F k => h H1 s1 _ fun v H2 s2 ⟨a, e, ha⟩ => by
  obtain rfl := e
  obtain ⟨c1, c2⟩ := cut_last ne
  refine ⟨1, rfl, -1, rfl, a, _, rfl, SqT.of ha, c2, fun p np => ?_⟩
  exact k _ _ (s2.trans (same_new np)) ⟨p, rfl, by rw [upd_same, ← c1]⟩
theorem c_stop (T : KF P w K mg base) : Callee P w K mg base (L2.CX P w) 6 "take_stop" ["words", "kind", "named"] (spStp K) := by
  obtain ⟨fd, F, g⟩ := T.tops ("take_stop", 31) (by decide)
  refine ⟨fd, F.ok scSp (fun vs H Q E h => ?_) (fun cdv A outer s H vs Q E hr h => ?_), FunD.bindsN F fun _ _ _ _ _ _ us hl => match us, hl with | [_, _, _], _ => rfl, F.kp, g⟩
  · obtain ⟨p, dx, tp, ws, ln, t, T, kind, ns, rfl, _⟩ := h
    rfl
  · obtain ⟨p, dx, tp, ws, ln, t, T', kind, ns, rfl, O, hz, hT, hn, rk, good, bad⟩ := h
    have M := md (w := w) T
    obtain ⟨nx, _, _⟩ := M.toMC
    obtain ⟨fF, GF, bF⟩ := M.tf
    refine ⟨_, pss_cons (ps_if (PW.pt (pw_and (pt_cmpR op_eq (pv 1) pe_str (nomark _)) (pw_and1 (pt_val (pe_methR (E := E0) (pv 0) T.cl (mt T ("is_next", 5) (by decide)) nx (hr.mono (by decide)) pass0 (pa_cons pe_str pa_nil))))))
        (pss_cons (ps_expr (pe_meth0R (E := E) (pv 0) T.cl (mt T ("take", 6) (by decide)) M.tk (hr.mono (by decide)) (passes_call (takes_of rfl rfl rfl rfl) fun _ _ _ _ h => h)))
          (pss_one (ps_ret (pe_meth0 (E := E) (pv 0) T.cl (mt T ("take_fix", 7) (by decide)) GF (hr.mono (by decide)) bF .nil (passes_call (takes_of rfl rfl rfl rfl) fun _ _ _ _ h => h))))) pss_nil)
      (pss_cons (ps_if (PW.pt (pw_and (pt_cmpR op_in_seq (pv 1) (pe_tup (pa_cons pe_str (pa_cons pe_str (pa_cons pe_str pa_nil)))) rfl) (pw_and (pt_cmpR op_gt (pe_callB call_len_seq (by rfl) (T.fr "len" (by decide)) PySem.boot_len (pa_cons (pv 2) pa_nil)) pe_int (nomark _))
            (pw_and1 (pt_val (pe_methR (E := E0) (pv 0) T.cl (mt T ("is_next", 5) (by decide)) nx (hr.mono (by decide)) pass0 (pa_cons pe_str pa_nil)))))))
        (pss_cons (ps_expr (pe_meth0R (E := E) (pv 0) T.cl (mt T ("take", 6) (by decide)) M.tk (hr.mono (by decide)) (passes_call (takes_of rfl rfl rfl rfl) fun _ _ _ _ h => h)))
        (pss_cons (ps_setLc (i := 3) (own := [("number", 4)]) (g := gName 4) (tt := tYes) (te := tCB rStrI (tCons (tVar 4) tNil)) rfl scSp.nd rfl rfl (sw_true rfl rfl rfl rfl) (pi_tup (pe_slice sl_tup (pv 2) po_none (po_some (pe_un un_neg pe_int)))) (blkOk_by (N := scSp_N) (sc := defScope (top 31)) (by decide +kernel))
            (fun _ _ _ _ _ => pg_name (i := 4) scSp.nd rfl (.inl rfl)) (fun _ _ _ _ _ => pts_nil) (fun _ _ _ _ _ => pe_callTy call_str_int (by rfl) (T.fr "str" (by decide)) boot_T (pa_cons (pv 4) pa_nil)))
          (pss_one (ps_ret (pe_callTy call_int_str (by rfl) (T.fr "int" (by decide)) boot_int (pa_cons (Sk.pe_methSL (E := E) (pv 0) T.cl T.nbt M.tk (hr.mono (by decide)) (passes_call (takes_of rfl rfl rfl rfl) fun _ _ _ _ h => h) (pv 3)) pa_nil)))))) pss_nil)
      (pss_one (ps_ret pe_non))), ?_⟩
    have hs : L2.start scSp_N [.ref p, .str kind, .ref T'] = [some (.ref p), some (.str kind), some (.ref T'), none, none] := rfl
    rw [hs]
    refine TestR.then (TestR.and (eq_strs (er_v (i := 1) rfl) er_c) (nx_test (i := 0) (ss := ["to"]) rfl O args_strs (by decide))) (fun e H1 s1 => ?_) (fun e H1 s1 => ?_)
    · obtain ⟨e1, e2⟩ := Bool.and_eq_true_iff.mp e
      rw [next_one] at e2
      have c1 : kind = "merge" ∧ isAt ws t "to" = true := ⟨of_decide_eq_true e1, e2⟩
      refine take_read (i := 0) rfl (O.same s1) (isAt_lt e2) fun v H2 s2 O2 => ?_
      refine fix_read (i := 0) rfl O2 hz (fun x ex H3 s3 O3 => ?_) (fun ex H3 s3 => ?_)
      · exact good _ (t + 2) (by unfold stopW; rw [if_pos c1, ex]) H3 ((Same.tw s1 s2).trans s3) O3
      · exact bad (t + 1) (by unfold stopW; rw [if_pos c1, ex]) H3 ((Same.tw s1 s2).tr s3)
    have c1 : ¬ (kind = "merge" ∧ isAt ws t "to" = true) := fun z => by
      rw [next_one, decide_eq_true z.1, z.2] at e
      cases e
    have lenT : TestR (tTest (tOp (rI0 fun i j => V.bl (decide (j < i))) (tCB (rLenS K) (tCons (tVar 2) tNil)) (tC (V.int 1)))) [some (.ref p), some (.str kind), some (.ref T'), none, none] H1 (decide (1 < ns.length)) := fun H2 s2 F k => by
      refine ⟨_, rfl, T', _, rfl, .inr (SqT.of (s2 _ _ (s1 _ _ hT))), _, _, rfl, rfl, _, rfl, ?_⟩
      have e : decide ((1 : Int) < (ns.length : Nat)) = decide (1 < ns.length) := decide_eq_decide.mpr ⟨fun h => by omega, fun h => by omega⟩
      rw [e]
      exact k H2 same_rfl
    refine TestR.then (TestR.and (in_t (i := 1) (ss := ["rise", "night", "renew"]) rfl (by decide)) (TestR.and lenT (nx_test (i := 0) (ss := ["to"]) rfl (O.same s1) args_strs (by decide)))) (fun e H2 s2 => ?_) (fun e H2 s2 => ?_)
    · obtain ⟨e1, e2⟩ := Bool.and_eq_true_iff.mp e
      obtain ⟨e2, e3⟩ := Bool.and_eq_true_iff.mp e2
      rw [next_one] at e3
      have k3 := of_decide_eq_true e1
      have n1 := of_decide_eq_true e2
      have c2 : kind ∈ (["rise", "night", "renew"] : List Str) ∧ (1 < ns.length ∧ isAt ws t "to" = true) := ⟨k3, n1, e3⟩
      obtain ⟨is, rfl, ib⟩ := rk k3
      have s2 := s1.trans s2
      have mi : (is.map V.int).map intV = is := by
        rw [List.map_map]
        exact List.map_id'' (fun _ => rfl) is
      refine take_read (i := 0) rfl (O.same s2) (isAt_lt e3) fun v H3 s3 O3 => ?_
      have n1 : T' ≠ p := ne_of hT O.ob (fun z => nomatch z)
      have hT3 : H3 T' = some (.tup (is.map V.int)) := s3 _ _ n1 (s2 _ _ hT)
      have ne : is ≠ [] := fun z => by rw [z] at c2; exact absurd c2.2.1 (by decide)
      have lz : is.length ≤ 300 := by rw [List.length_map] at hn; exact hn
      have lc := (er_lct (K := K) (σ := [some (.ref p), some (.str kind), some (.ref T'), none, none]) (i := 4) (p := fun _ => true) (enc := V.int) (out := fun n => V.str (iS n)) (ns := is.dropLast) (er_cutl (K := K) (er_var (σ := [some (.ref p), some (.str kind), some (.ref T'), none, none]) (H := H3) (i := 2) rfl stb_t (⟨T', rfl, hT3⟩ : AtT (is.map V.int) (.ref T') H3)) ne) (by rw [List.length_dropLast]; omega) (fun _ => rfl) (fun z _ _ _ => yes_test)
        (fun z hz' _ H4 s4 => er_strI (er_v (i := 4) rfl) (ib z (List.dropLast_subset _ hz'))))
      refine ER.asg (i := 3) lc fun v4 H4 s4 ⟨l, e4, hl⟩ => ?_
      obtain rfl := e4
      rw [all_yes, show (is.dropLast.map fun n => V.str (iS n)) = (is.dropLast.map iS).map V.str from (List.map_map ..).symm] at hl
      have O4 := O3.same s4
      refine ⟨_, rfl, p, dx, _, rfl, O4.ob, rfl, fun q nq => ⟨_, rfl, l, _, rfl, .inr (SqL.of (same_new nq _ _ hl)), upd_same, tak_of (is.dropLast.map iS) (O4.same (same_new nq)) (by rw [List.length_map, List.length_dropLast]; omega) ⟨fun en H5 s5 O5 => ?_, fun en H5 s5 => ?_⟩⟩⟩
      · unfold nextB at en
        obtain ⟨a1, a2⟩ := Bool.and_eq_true_iff.mp en
        have ht := of_decide_eq_true a1
        have a3 : ws.getD (t + 1) "" ∈ is.dropLast.map iS := by
          rcases Bool.or_eq_true_iff.mp a2 with a2 | a2
          · have b := List.isEmpty_iff.mp a2
            have c := congrArg List.length b
            rw [List.length_map, List.length_dropLast] at c
            have d := c2.2.1
            rw [List.length_map] at d
            have : is.length - 1 = 0 := c
            omega
          · exact of_decide_eq_true a2
        have so : ∃ m, is.dropLast.find? (fun n => decide (iS n = ws.getD (t + 1) "")) = some m := by
          obtain ⟨m, hm, em⟩ := List.mem_map.mp a3
          cases f : is.dropLast.find? (fun n => decide (iS n = ws.getD (t + 1) "")) with
          | some m => exact ⟨m, rfl⟩
          | none => exact absurd (List.find?_eq_none.mp f m hm) (by simp [em])
        obtain ⟨m, hm⟩ := so
        have em : iS m = ws.getD (t + 1) "" := by
          have h := List.find?_some hm
          exact of_decide_eq_true h
        have bm := ib m (List.dropLast_subset _ (List.mem_of_find?_eq_some hm))
        obtain ⟨_, b2, b3⟩ := lenV bm
        refine ⟨_, m, rfl, by rw [← em]; exact b3, by rw [← em]; exact b2, ?_⟩
        refine good _ (t + 2) (by unfold stopW; rw [if_neg c1, if_pos c2]; unfold pickS; rw [if_pos ht, mi, hm]) H5 (((Same.tw s2 s3).tr (s4.trans (same_new nq))).trans s5) O5
      · refine bad (t + 1) (by
          unfold stopW
          rw [if_neg c1, if_pos c2]
          unfold pickS
          by_cases ht : t + 1 < ws.length
          · rw [if_pos ht, mi]
            cases f : is.dropLast.find? (fun n => decide (iS n = ws.getD (t + 1) "")) with
            | none => rfl
            | some m =>
              have em : iS m = ws.getD (t + 1) "" := by
                have h := List.find?_some f
                exact of_decide_eq_true h
              unfold nextB at en
              rw [decide_eq_true ht, Bool.true_and] at en
              have := decide_eq_true (List.mem_map.mpr ⟨m, List.mem_of_find?_eq_some f, em⟩ : ws.getD (t + 1) "" ∈ is.dropLast.map iS)
              rw [this, Bool.or_true] at en
              cases en
          · rw [if_neg ht]) H5 (((Same.tw s2 s3).tr (s4.trans (same_new nq))).tr s5)
    have c2 : ¬ (kind ∈ (["rise", "night", "renew"] : List Str) ∧ (1 < ns.length ∧ isAt ws t "to" = true)) := fun z => by
      rw [next_one, decide_eq_true z.1, decide_eq_true z.2.1, z.2.2] at e
      cases e
    exact good _ t (by unfold stopW; rw [if_neg c1, if_neg c2]) H2 (SameW.of (s1.trans s2)) ((O.same s1).same s2)
end
end K8
set_option Elab.async false
set_option linter.all false
set_option maxRecDepth 100000
set_option maxHeartbeats 2000000
/-! The kinds of deeds; a deed as it stands; what it names and where it stops. -/
namespace K8
open PySem PySem.Spec PyProof.Rows L2 RV EV He EF EI LamX
inductive Kd
  | fix
  | unfix
  | cut
  | carry
  | drop
  | merge
  | end_
  | offer
  | live
  | down
  | day
  | try_
  | probe
  | meet_
  | rise
  | night
  | redo
  | renew
  | shut
deriving DecidableEq
def Kd.cls : Kd → Str
  | .fix => "Fix"
  | .unfix => "Unfix"
  | .cut => "Cut"
  | .carry => "Carry"
  | .drop => "Drop"
  | .merge => "Merge"
  | .end_ => "End"
  | .offer => "Offer"
  | .live => "Live"
  | .down => "Down"
  | .day => "Day"
  | .try_ => "Try"
  | .probe => "Probe"
  | .meet_ => "Meet"
  | .rise => "Rise"
  | .night => "Night"
  | .redo => "Redo"
  | .renew => "Renew"
  | .shut => "Shut"
def Kd.word : Kd → Str
  | .fix => "fix"
  | .unfix => "unfix"
  | .cut => "cut"
  | .carry => "carry"
  | .drop => "drop"
  | .merge => "merge"
  | .end_ => "end"
  | .offer => "offer"
  | .live => "live"
  | .down => "down"
  | .day => "day"
  | .try_ => "try"
  | .probe => "probe"
  | .meet_ => "meet"
  | .rise => "rise"
  | .night => "night"
  | .redo => "redo"
  | .renew => "renew"
  | .shut => "shut"
/-- where a class keeps what it names -/
inductive Shp
  | pl (fs : List Str)
  | mg
  | many (f : Str)
def Kd.shp : Kd → Shp
  | .fix => .pl ["fix"]
  | .unfix => .pl ["fix"]
  | .cut => .pl []
  | .carry => .pl ["fix", "line"]
  | .drop => .pl ["fix", "line"]
  | .merge => .mg
  | .end_ => .pl ["line"]
  | .offer => .pl ["line"]
  | .live => .pl ["line"]
  | .down => .pl ["line"]
  | .day => .pl ["line"]
  | .try_ => .pl ["line", "mate"]
  | .probe => .pl ["line", "mate"]
  | .meet_ => .pl ["line", "mate"]
  | .rise => .many "lines"
  | .night => .many "lines"
  | .redo => .pl ["day"]
  | .renew => .many "days"
  | .shut => .pl ["day"]
def Kd.all : List Kd := [.fix, .unfix, .cut, .carry, .drop, .merge, .end_, .offer, .live, .down, .day, .try_, .probe, .meet_, .rise, .night, .redo, .renew, .shut]
theorem Kd.kn (k : Kd) : (k.cls, k.word) ∈ kindN := by cases k <;> decide
theorem Kd.inj {k k' : Kd} (h : k.word = k'.word) : k = k' := by
  cases k <;> cases k' <;> first | rfl | exact absurd h (by decide)
def Shp.at (s : Shp) (H : Hp) (fs : List (Str × V)) (ns : List V) (up : V) : Prop := match s with
  | .pl gs => up = .non ∧ ns.length = gs.length ∧ fs = gs.zip ns
  | .mg => ∃ v, ns = [v] ∧ fs = ([("line", v), ("upto", up)] : List (Str × V))
  | .many f => ∃ t, H t = some (.tup ns) ∧ fs = ([(f, .ref t), ("upto", up)] : List (Str × V))
def IsD (K : PySem.W.Frag) (H : Hp) (a : Addr) (k : Kd) (ns : List V) (up : V) : Prop := ∃ dx fs, H a = some (.ins (ga K k.cls) dx fs) ∧ k.shp.at H fs ns up
theorem Shp.same {s : Shp} {H H' : Hp} {fs : List (Str × V)} {ns : List V} {up : V} (h : s.at H fs ns up) (e : Same H H') : s.at H' fs ns up := by
  cases s with
  | pl gs => exact h
  | mg => exact h
  | many f =>
    obtain ⟨t, ht, hf⟩ := h
    exact ⟨t, e _ _ ht, hf⟩
theorem IsD.same {K : PySem.W.Frag} {H H' : Hp} {a : Addr} {k : Kd} {ns : List V} {up : V} (h : IsD K H a k ns up) (s : Same H H') : IsD K H' a k ns up := by
  obtain ⟨dx, fs, ha, hs⟩ := h
  exact ⟨dx, fs, s _ _ ha, Shp.same hs s⟩
def spNm (K : PySem.W.Frag) (k : Kd) : Sp := fun vs H Q _ => ∃ a ns up, vs = [.ref a] ∧ IsD K H a k ns up ∧ ∀ t H', Same H H' → H' t = some (.tup ns) → Q (.ref t) H'
def spSt (K : PySem.W.Frag) (k : Kd) : Sp := fun vs H Q _ => ∃ a ns up, vs = [.ref a] ∧ IsD K H a k ns up ∧ Q up H
/-- a method of a kind, as it is called -/
abbrev KMt (P : Program) (w : World) (K : PySem.W.Frag) (mg : Str → Option Value) (base : Heap) (CX : CXT) (n : Nat) (k : Kd) (m : Str) (sp : Sp) : Prop :=
  Meth K (ga K k.cls) m (ma K (ga K k.cls) m) ∧ ∃ fd, FnOk P w K mg base CX n (ma K (ga K k.cls) m) fd ["self"] sp ∧ L2.Binds K fd ["self"] []
section
variable {P : Program} {w : World} {K : PySem.W.Frag} {mg : Str → Option Value} {base : Heap}
theorem kcls (T : KF P w K mg base) (k : Kd) : Cls K (ga K k.cls) := by
  cases k
  · exact (T.gk ("Fix", 46) (by decide)).2.1
  · exact (T.gk ("Unfix", 47) (by decide)).2.1
  · exact T.cc
  · exact (T.gk ("Carry", 49) (by decide)).2.1
  · exact (T.gk ("Drop", 50) (by decide)).2.1
  · exact (T.gk ("Merge", 51) (by decide)).2.1
  · exact (T.gk ("End", 52) (by decide)).2.1
  · exact (T.gk ("Offer", 53) (by decide)).2.1
  · exact (T.gk ("Live", 54) (by decide)).2.1
  · exact (T.gk ("Down", 55) (by decide)).2.1
  · exact (T.gk ("Day", 56) (by decide)).2.1
  · exact (T.gk ("Try", 57) (by decide)).2.1
  · exact (T.gk ("Probe", 58) (by decide)).2.1
  · exact (T.gk ("Meet", 59) (by decide)).2.1
  · exact (T.gk ("Rise", 60) (by decide)).2.1
  · exact (T.gk ("Night", 61) (by decide)).2.1
  · exact (T.gk ("Redo", 62) (by decide)).2.1
  · exact (T.gk ("Renew", 63) (by decide)).2.1
  · exact (T.gk ("Shut", 64) (by decide)).2.1
theorem scN_Fix : FnScope ["self"] ["self"] (defScope (cSt ("Fix", "Fix", 46, 2))) := ⟨rfl, rfl, rfl, by decide +kernel, rfl, by decide +kernel, by decide +kernel⟩
theorem nm_Fix (T : KF P w K mg base) : KMt P w K mg base CX0 1 .fix "named" (spNm K .fix) := by
  obtain ⟨m, fd, F⟩ := T.nmd ("Fix", "Fix", 46, 2) (by decide)
  refine ⟨m, fd, F.ok scN_Fix (fun vs H Q E h => ?_) (fun cdv A outer s H vs Q E hr h => ?_), FunD.bindsN F fun _ _ _ _ _ _ us hl => match us, hl with | [_], _ => rfl⟩
  · obtain ⟨a, ns, up, rfl, _⟩ := h
    rfl
  · obtain ⟨a, ns, up, rfl, ⟨dx, fs, ha, _, hl, rfl⟩, k⟩ := h
    obtain ⟨v0, rfl⟩ : ∃ v0, ns = [v0] := by
      match ns, hl with
      | [v0], _ => exact ⟨_, rfl⟩
    refine ⟨_, PSs.nox (pss_one (ps_ret (pe_tup (pa_cons (pe_fld (pv 0) rfl) pa_nil)))), ?_⟩
    refine ⟨_, rfl, a, _, dx, _, _, rfl, ha, kcls T .fix, T.no ("Fix", "fix") (by decide), rfl, by show 1 ≤ sizeLine; rw [sizeLine_eq]; decide, fun t nt => k t _ (same_new nt) upd_same⟩
theorem scS_Fix : FnScope ["self"] ["self"] (defScope (cSt ("Fix", "Deed", 37, 6))) := ⟨rfl, rfl, rfl, by decide +kernel, rfl, by decide +kernel, by decide +kernel⟩
theorem st_Fix (T : KF P w K mg base) : KMt P w K mg base CX0 1 .fix "stop" (spSt K .fix) := by
  obtain ⟨m, fd, F⟩ := T.stp ("Fix", "Deed", 37, 6) (by decide)
  refine ⟨m, fd, F.ok scS_Fix (fun vs H Q E h => ?_) (fun cdv A outer s H vs Q E hr h => ?_), FunD.bindsN F fun _ _ _ _ _ _ us hl => match us, hl with | [_], _ => rfl⟩
  · obtain ⟨a, ns, up, rfl, _⟩ := h
    rfl
  · obtain ⟨a, ns, up, rfl, ⟨dx, fs, ha, rfl, _⟩, k⟩ := h
    exact ⟨_, PSs.nox (pss_one (ps_ret pe_non)), k⟩
theorem scN_Unfix : FnScope ["self"] ["self"] (defScope (cSt ("Unfix", "Unfix", 47, 2))) := ⟨rfl, rfl, rfl, by decide +kernel, rfl, by decide +kernel, by decide +kernel⟩
theorem nm_Unfix (T : KF P w K mg base) : KMt P w K mg base CX0 1 .unfix "named" (spNm K .unfix) := by
  obtain ⟨m, fd, F⟩ := T.nmd ("Unfix", "Unfix", 47, 2) (by decide)
  refine ⟨m, fd, F.ok scN_Unfix (fun vs H Q E h => ?_) (fun cdv A outer s H vs Q E hr h => ?_), FunD.bindsN F fun _ _ _ _ _ _ us hl => match us, hl with | [_], _ => rfl⟩
  · obtain ⟨a, ns, up, rfl, _⟩ := h
    rfl
  · obtain ⟨a, ns, up, rfl, ⟨dx, fs, ha, _, hl, rfl⟩, k⟩ := h
    obtain ⟨v0, rfl⟩ : ∃ v0, ns = [v0] := by
      match ns, hl with
      | [v0], _ => exact ⟨_, rfl⟩
    refine ⟨_, PSs.nox (pss_one (ps_ret (pe_tup (pa_cons (pe_fld (pv 0) rfl) pa_nil)))), ?_⟩
    refine ⟨_, rfl, a, _, dx, _, _, rfl, ha, kcls T .unfix, T.no ("Unfix", "fix") (by decide), rfl, by show 1 ≤ sizeLine; rw [sizeLine_eq]; decide, fun t nt => k t _ (same_new nt) upd_same⟩
theorem scS_Unfix : FnScope ["self"] ["self"] (defScope (cSt ("Unfix", "Deed", 37, 6))) := ⟨rfl, rfl, rfl, by decide +kernel, rfl, by decide +kernel, by decide +kernel⟩
theorem st_Unfix (T : KF P w K mg base) : KMt P w K mg base CX0 1 .unfix "stop" (spSt K .unfix) := by
  obtain ⟨m, fd, F⟩ := T.stp ("Unfix", "Deed", 37, 6) (by decide)
  refine ⟨m, fd, F.ok scS_Unfix (fun vs H Q E h => ?_) (fun cdv A outer s H vs Q E hr h => ?_), FunD.bindsN F fun _ _ _ _ _ _ us hl => match us, hl with | [_], _ => rfl⟩
  · obtain ⟨a, ns, up, rfl, _⟩ := h
    rfl
  · obtain ⟨a, ns, up, rfl, ⟨dx, fs, ha, rfl, _⟩, k⟩ := h
    exact ⟨_, PSs.nox (pss_one (ps_ret pe_non)), k⟩
theorem scN_Cut : FnScope ["self"] ["self"] (defScope (cSt ("Cut", "Deed", 37, 5))) := ⟨rfl, rfl, rfl, by decide +kernel, rfl, by decide +kernel, by decide +kernel⟩
theorem nm_Cut (T : KF P w K mg base) : KMt P w K mg base CX0 1 .cut "named" (spNm K .cut) := by
  obtain ⟨m, fd, F⟩ := T.nmd ("Cut", "Deed", 37, 5) (by decide)
  refine ⟨m, fd, F.ok scN_Cut (fun vs H Q E h => ?_) (fun cdv A outer s H vs Q E hr h => ?_), FunD.bindsN F fun _ _ _ _ _ _ us hl => match us, hl with | [_], _ => rfl⟩
  · obtain ⟨a, ns, up, rfl, _⟩ := h
    rfl
  · obtain ⟨a, ns, up, rfl, ⟨dx, fs, ha, _, hl, rfl⟩, k⟩ := h
    obtain rfl : ns = [] := List.eq_nil_of_length_eq_zero hl
    refine ⟨_, PSs.nox (pss_one (ps_ret (pe_tup pa_nil))), ?_⟩
    refine ⟨by show 0 ≤ sizeLine; rw [sizeLine_eq]; decide, fun t nt => k t _ (same_new nt) upd_same⟩
theorem scS_Cut : FnScope ["self"] ["self"] (defScope (cSt ("Cut", "Deed", 37, 6))) := ⟨rfl, rfl, rfl, by decide +kernel, rfl, by decide +kernel, by decide +kernel⟩
theorem st_Cut (T : KF P w K mg base) : KMt P w K mg base CX0 1 .cut "stop" (spSt K .cut) := by
  obtain ⟨m, fd, F⟩ := T.stp ("Cut", "Deed", 37, 6) (by decide)
  refine ⟨m, fd, F.ok scS_Cut (fun vs H Q E h => ?_) (fun cdv A outer s H vs Q E hr h => ?_), FunD.bindsN F fun _ _ _ _ _ _ us hl => match us, hl with | [_], _ => rfl⟩
  · obtain ⟨a, ns, up, rfl, _⟩ := h
    rfl
  · obtain ⟨a, ns, up, rfl, ⟨dx, fs, ha, rfl, _⟩, k⟩ := h
    exact ⟨_, PSs.nox (pss_one (ps_ret pe_non)), k⟩
theorem scN_Carry : FnScope ["self"] ["self"] (defScope (cSt ("Carry", "Carry", 49, 2))) := ⟨rfl, rfl, rfl, by decide +kernel, rfl, by decide +kernel, by decide +kernel⟩
theorem nm_Carry (T : KF P w K mg base) : KMt P w K mg base CX0 1 .carry "named" (spNm K .carry) := by
  obtain ⟨m, fd, F⟩ := T.nmd ("Carry", "Carry", 49, 2) (by decide)
  refine ⟨m, fd, F.ok scN_Carry (fun vs H Q E h => ?_) (fun cdv A outer s H vs Q E hr h => ?_), FunD.bindsN F fun _ _ _ _ _ _ us hl => match us, hl with | [_], _ => rfl⟩
  · obtain ⟨a, ns, up, rfl, _⟩ := h
    rfl
  · obtain ⟨a, ns, up, rfl, ⟨dx, fs, ha, _, hl, rfl⟩, k⟩ := h
    obtain ⟨v0, v1, rfl⟩ : ∃ v0 v1, ns = [v0, v1] := by
      match ns, hl with
      | [v0, v1], _ => exact ⟨_, _, rfl⟩
    refine ⟨_, PSs.nox (pss_one (ps_ret (pe_tup (pa_cons (pe_fld (pv 0) rfl) (pa_cons (pe_fld (pv 0) rfl) pa_nil))))), ?_⟩
    refine ⟨_, rfl, a, _, dx, _, _, rfl, ha, kcls T .carry, T.no ("Carry", "fix") (by decide), rfl, _, rfl, a, _, dx, _, _, rfl, ha, kcls T .carry, T.no ("Carry", "line") (by decide), rfl, by show 2 ≤ sizeLine; rw [sizeLine_eq]; decide, fun t nt => k t _ (same_new nt) upd_same⟩
theorem scS_Carry : FnScope ["self"] ["self"] (defScope (cSt ("Carry", "Deed", 37, 6))) := ⟨rfl, rfl, rfl, by decide +kernel, rfl, by decide +kernel, by decide +kernel⟩
theorem st_Carry (T : KF P w K mg base) : KMt P w K mg base CX0 1 .carry "stop" (spSt K .carry) := by
  obtain ⟨m, fd, F⟩ := T.stp ("Carry", "Deed", 37, 6) (by decide)
  refine ⟨m, fd, F.ok scS_Carry (fun vs H Q E h => ?_) (fun cdv A outer s H vs Q E hr h => ?_), FunD.bindsN F fun _ _ _ _ _ _ us hl => match us, hl with | [_], _ => rfl⟩
  · obtain ⟨a, ns, up, rfl, _⟩ := h
    rfl
  · obtain ⟨a, ns, up, rfl, ⟨dx, fs, ha, rfl, _⟩, k⟩ := h
    exact ⟨_, PSs.nox (pss_one (ps_ret pe_non)), k⟩
theorem scN_Drop : FnScope ["self"] ["self"] (defScope (cSt ("Drop", "Drop", 50, 2))) := ⟨rfl, rfl, rfl, by decide +kernel, rfl, by decide +kernel, by decide +kernel⟩
theorem nm_Drop (T : KF P w K mg base) : KMt P w K mg base CX0 1 .drop "named" (spNm K .drop) := by
  obtain ⟨m, fd, F⟩ := T.nmd ("Drop", "Drop", 50, 2) (by decide)
  refine ⟨m, fd, F.ok scN_Drop (fun vs H Q E h => ?_) (fun cdv A outer s H vs Q E hr h => ?_), FunD.bindsN F fun _ _ _ _ _ _ us hl => match us, hl with | [_], _ => rfl⟩
  · obtain ⟨a, ns, up, rfl, _⟩ := h
    rfl
  · obtain ⟨a, ns, up, rfl, ⟨dx, fs, ha, _, hl, rfl⟩, k⟩ := h
    obtain ⟨v0, v1, rfl⟩ : ∃ v0 v1, ns = [v0, v1] := by
      match ns, hl with
      | [v0, v1], _ => exact ⟨_, _, rfl⟩
    refine ⟨_, PSs.nox (pss_one (ps_ret (pe_tup (pa_cons (pe_fld (pv 0) rfl) (pa_cons (pe_fld (pv 0) rfl) pa_nil))))), ?_⟩
    refine ⟨_, rfl, a, _, dx, _, _, rfl, ha, kcls T .drop, T.no ("Drop", "fix") (by decide), rfl, _, rfl, a, _, dx, _, _, rfl, ha, kcls T .drop, T.no ("Drop", "line") (by decide), rfl, by show 2 ≤ sizeLine; rw [sizeLine_eq]; decide, fun t nt => k t _ (same_new nt) upd_same⟩
theorem scS_Drop : FnScope ["self"] ["self"] (defScope (cSt ("Drop", "Deed", 37, 6))) := ⟨rfl, rfl, rfl, by decide +kernel, rfl, by decide +kernel, by decide +kernel⟩
theorem st_Drop (T : KF P w K mg base) : KMt P w K mg base CX0 1 .drop "stop" (spSt K .drop) := by
  obtain ⟨m, fd, F⟩ := T.stp ("Drop", "Deed", 37, 6) (by decide)
  refine ⟨m, fd, F.ok scS_Drop (fun vs H Q E h => ?_) (fun cdv A outer s H vs Q E hr h => ?_), FunD.bindsN F fun _ _ _ _ _ _ us hl => match us, hl with | [_], _ => rfl⟩
  · obtain ⟨a, ns, up, rfl, _⟩ := h
    rfl
  · obtain ⟨a, ns, up, rfl, ⟨dx, fs, ha, rfl, _⟩, k⟩ := h
    exact ⟨_, PSs.nox (pss_one (ps_ret pe_non)), k⟩
theorem scN_Merge : FnScope ["self"] ["self"] (defScope (cSt ("Merge", "OnLine", 39, 0))) := ⟨rfl, rfl, rfl, by decide +kernel, rfl, by decide +kernel, by decide +kernel⟩
theorem nm_Merge (T : KF P w K mg base) : KMt P w K mg base CX0 1 .merge "named" (spNm K .merge) := by
  obtain ⟨m, fd, F⟩ := T.nmd ("Merge", "OnLine", 39, 0) (by decide)
  refine ⟨m, fd, F.ok scN_Merge (fun vs H Q E h => ?_) (fun cdv A outer s H vs Q E hr h => ?_), FunD.bindsN F fun _ _ _ _ _ _ us hl => match us, hl with | [_], _ => rfl⟩
  · obtain ⟨a, ns, up, rfl, _⟩ := h
    rfl
  · obtain ⟨a, ns, up, rfl, ⟨dx, fs, ha, v, rfl, rfl⟩, k⟩ := h
    refine ⟨_, PSs.nox (pss_one (ps_ret (pe_tup (pa_cons (pe_fld (pv 0) rfl) pa_nil)))), ?_⟩
    refine ⟨_, rfl, a, _, dx, _, _, rfl, ha, kcls T .merge, T.no ("Merge", "line") (by decide), rfl, by show 1 ≤ sizeLine; rw [sizeLine_eq]; decide, fun t nt => k t _ (same_new nt) upd_same⟩
theorem scS_Merge : FnScope ["self"] ["self"] (defScope (cSt ("Merge", "OfMany", 41, 0))) := ⟨rfl, rfl, rfl, by decide +kernel, rfl, by decide +kernel, by decide +kernel⟩
theorem st_Merge (T : KF P w K mg base) : KMt P w K mg base CX0 1 .merge "stop" (spSt K .merge) := by
  obtain ⟨m, fd, F⟩ := T.stp ("Merge", "OfMany", 41, 0) (by decide)
  refine ⟨m, fd, F.ok scS_Merge (fun vs H Q E h => ?_) (fun cdv A outer s H vs Q E hr h => ?_), FunD.bindsN F fun _ _ _ _ _ _ us hl => match us, hl with | [_], _ => rfl⟩
  · obtain ⟨a, ns, up, rfl, _⟩ := h
    rfl
  · obtain ⟨a, ns, up, rfl, ⟨dx, fs, ha, v, rfl, rfl⟩, k⟩ := h
    refine ⟨_, PSs.nox (pss_one (ps_ret (pe_fld (pv 0) rfl))), ?_⟩
    exact ⟨_, rfl, a, _, dx, _, _, rfl, ha, kcls T .merge, T.no ("Merge", "upto") (by decide), rfl, k⟩
theorem scN_End : FnScope ["self"] ["self"] (defScope (cSt ("End", "OnLine", 39, 0))) := ⟨rfl, rfl, rfl, by decide +kernel, rfl, by decide +kernel, by decide +kernel⟩
theorem nm_End (T : KF P w K mg base) : KMt P w K mg base CX0 1 .end_ "named" (spNm K .end_) := by
  obtain ⟨m, fd, F⟩ := T.nmd ("End", "OnLine", 39, 0) (by decide)
  refine ⟨m, fd, F.ok scN_End (fun vs H Q E h => ?_) (fun cdv A outer s H vs Q E hr h => ?_), FunD.bindsN F fun _ _ _ _ _ _ us hl => match us, hl with | [_], _ => rfl⟩
  · obtain ⟨a, ns, up, rfl, _⟩ := h
    rfl
  · obtain ⟨a, ns, up, rfl, ⟨dx, fs, ha, _, hl, rfl⟩, k⟩ := h
    obtain ⟨v0, rfl⟩ : ∃ v0, ns = [v0] := by
      match ns, hl with
      | [v0], _ => exact ⟨_, rfl⟩
    refine ⟨_, PSs.nox (pss_one (ps_ret (pe_tup (pa_cons (pe_fld (pv 0) rfl) pa_nil)))), ?_⟩
    refine ⟨_, rfl, a, _, dx, _, _, rfl, ha, kcls T .end_, T.no ("End", "line") (by decide), rfl, by show 1 ≤ sizeLine; rw [sizeLine_eq]; decide, fun t nt => k t _ (same_new nt) upd_same⟩
theorem scS_End : FnScope ["self"] ["self"] (defScope (cSt ("End", "Deed", 37, 6))) := ⟨rfl, rfl, rfl, by decide +kernel, rfl, by decide +kernel, by decide +kernel⟩
theorem st_End (T : KF P w K mg base) : KMt P w K mg base CX0 1 .end_ "stop" (spSt K .end_) := by
  obtain ⟨m, fd, F⟩ := T.stp ("End", "Deed", 37, 6) (by decide)
  refine ⟨m, fd, F.ok scS_End (fun vs H Q E h => ?_) (fun cdv A outer s H vs Q E hr h => ?_), FunD.bindsN F fun _ _ _ _ _ _ us hl => match us, hl with | [_], _ => rfl⟩
  · obtain ⟨a, ns, up, rfl, _⟩ := h
    rfl
  · obtain ⟨a, ns, up, rfl, ⟨dx, fs, ha, rfl, _⟩, k⟩ := h
    exact ⟨_, PSs.nox (pss_one (ps_ret pe_non)), k⟩
theorem scN_Offer : FnScope ["self"] ["self"] (defScope (cSt ("Offer", "OnLine", 39, 0))) := ⟨rfl, rfl, rfl, by decide +kernel, rfl, by decide +kernel, by decide +kernel⟩
theorem nm_Offer (T : KF P w K mg base) : KMt P w K mg base CX0 1 .offer "named" (spNm K .offer) := by
  obtain ⟨m, fd, F⟩ := T.nmd ("Offer", "OnLine", 39, 0) (by decide)
  refine ⟨m, fd, F.ok scN_Offer (fun vs H Q E h => ?_) (fun cdv A outer s H vs Q E hr h => ?_), FunD.bindsN F fun _ _ _ _ _ _ us hl => match us, hl with | [_], _ => rfl⟩
  · obtain ⟨a, ns, up, rfl, _⟩ := h
    rfl
  · obtain ⟨a, ns, up, rfl, ⟨dx, fs, ha, _, hl, rfl⟩, k⟩ := h
    obtain ⟨v0, rfl⟩ : ∃ v0, ns = [v0] := by
      match ns, hl with
      | [v0], _ => exact ⟨_, rfl⟩
    refine ⟨_, PSs.nox (pss_one (ps_ret (pe_tup (pa_cons (pe_fld (pv 0) rfl) pa_nil)))), ?_⟩
    refine ⟨_, rfl, a, _, dx, _, _, rfl, ha, kcls T .offer, T.no ("Offer", "line") (by decide), rfl, by show 1 ≤ sizeLine; rw [sizeLine_eq]; decide, fun t nt => k t _ (same_new nt) upd_same⟩
theorem scS_Offer : FnScope ["self"] ["self"] (defScope (cSt ("Offer", "Deed", 37, 6))) := ⟨rfl, rfl, rfl, by decide +kernel, rfl, by decide +kernel, by decide +kernel⟩
theorem st_Offer (T : KF P w K mg base) : KMt P w K mg base CX0 1 .offer "stop" (spSt K .offer) := by
  obtain ⟨m, fd, F⟩ := T.stp ("Offer", "Deed", 37, 6) (by decide)
  refine ⟨m, fd, F.ok scS_Offer (fun vs H Q E h => ?_) (fun cdv A outer s H vs Q E hr h => ?_), FunD.bindsN F fun _ _ _ _ _ _ us hl => match us, hl with | [_], _ => rfl⟩
  · obtain ⟨a, ns, up, rfl, _⟩ := h
    rfl
  · obtain ⟨a, ns, up, rfl, ⟨dx, fs, ha, rfl, _⟩, k⟩ := h
    exact ⟨_, PSs.nox (pss_one (ps_ret pe_non)), k⟩
theorem scN_Live : FnScope ["self"] ["self"] (defScope (cSt ("Live", "OnLine", 39, 0))) := ⟨rfl, rfl, rfl, by decide +kernel, rfl, by decide +kernel, by decide +kernel⟩
theorem nm_Live (T : KF P w K mg base) : KMt P w K mg base CX0 1 .live "named" (spNm K .live) := by
  obtain ⟨m, fd, F⟩ := T.nmd ("Live", "OnLine", 39, 0) (by decide)
  refine ⟨m, fd, F.ok scN_Live (fun vs H Q E h => ?_) (fun cdv A outer s H vs Q E hr h => ?_), FunD.bindsN F fun _ _ _ _ _ _ us hl => match us, hl with | [_], _ => rfl⟩
  · obtain ⟨a, ns, up, rfl, _⟩ := h
    rfl
  · obtain ⟨a, ns, up, rfl, ⟨dx, fs, ha, _, hl, rfl⟩, k⟩ := h
    obtain ⟨v0, rfl⟩ : ∃ v0, ns = [v0] := by
      match ns, hl with
      | [v0], _ => exact ⟨_, rfl⟩
    refine ⟨_, PSs.nox (pss_one (ps_ret (pe_tup (pa_cons (pe_fld (pv 0) rfl) pa_nil)))), ?_⟩
    refine ⟨_, rfl, a, _, dx, _, _, rfl, ha, kcls T .live, T.no ("Live", "line") (by decide), rfl, by show 1 ≤ sizeLine; rw [sizeLine_eq]; decide, fun t nt => k t _ (same_new nt) upd_same⟩
theorem scS_Live : FnScope ["self"] ["self"] (defScope (cSt ("Live", "Deed", 37, 6))) := ⟨rfl, rfl, rfl, by decide +kernel, rfl, by decide +kernel, by decide +kernel⟩
theorem st_Live (T : KF P w K mg base) : KMt P w K mg base CX0 1 .live "stop" (spSt K .live) := by
  obtain ⟨m, fd, F⟩ := T.stp ("Live", "Deed", 37, 6) (by decide)
  refine ⟨m, fd, F.ok scS_Live (fun vs H Q E h => ?_) (fun cdv A outer s H vs Q E hr h => ?_), FunD.bindsN F fun _ _ _ _ _ _ us hl => match us, hl with | [_], _ => rfl⟩
  · obtain ⟨a, ns, up, rfl, _⟩ := h
    rfl
  · obtain ⟨a, ns, up, rfl, ⟨dx, fs, ha, rfl, _⟩, k⟩ := h
    exact ⟨_, PSs.nox (pss_one (ps_ret pe_non)), k⟩
theorem scN_Down : FnScope ["self"] ["self"] (defScope (cSt ("Down", "OnLine", 39, 0))) := ⟨rfl, rfl, rfl, by decide +kernel, rfl, by decide +kernel, by decide +kernel⟩
theorem nm_Down (T : KF P w K mg base) : KMt P w K mg base CX0 1 .down "named" (spNm K .down) := by
  obtain ⟨m, fd, F⟩ := T.nmd ("Down", "OnLine", 39, 0) (by decide)
  refine ⟨m, fd, F.ok scN_Down (fun vs H Q E h => ?_) (fun cdv A outer s H vs Q E hr h => ?_), FunD.bindsN F fun _ _ _ _ _ _ us hl => match us, hl with | [_], _ => rfl⟩
  · obtain ⟨a, ns, up, rfl, _⟩ := h
    rfl
  · obtain ⟨a, ns, up, rfl, ⟨dx, fs, ha, _, hl, rfl⟩, k⟩ := h
    obtain ⟨v0, rfl⟩ : ∃ v0, ns = [v0] := by
      match ns, hl with
      | [v0], _ => exact ⟨_, rfl⟩
    refine ⟨_, PSs.nox (pss_one (ps_ret (pe_tup (pa_cons (pe_fld (pv 0) rfl) pa_nil)))), ?_⟩
    refine ⟨_, rfl, a, _, dx, _, _, rfl, ha, kcls T .down, T.no ("Down", "line") (by decide), rfl, by show 1 ≤ sizeLine; rw [sizeLine_eq]; decide, fun t nt => k t _ (same_new nt) upd_same⟩
theorem scS_Down : FnScope ["self"] ["self"] (defScope (cSt ("Down", "Deed", 37, 6))) := ⟨rfl, rfl, rfl, by decide +kernel, rfl, by decide +kernel, by decide +kernel⟩
theorem st_Down (T : KF P w K mg base) : KMt P w K mg base CX0 1 .down "stop" (spSt K .down) := by
  obtain ⟨m, fd, F⟩ := T.stp ("Down", "Deed", 37, 6) (by decide)
  refine ⟨m, fd, F.ok scS_Down (fun vs H Q E h => ?_) (fun cdv A outer s H vs Q E hr h => ?_), FunD.bindsN F fun _ _ _ _ _ _ us hl => match us, hl with | [_], _ => rfl⟩
  · obtain ⟨a, ns, up, rfl, _⟩ := h
    rfl
  · obtain ⟨a, ns, up, rfl, ⟨dx, fs, ha, rfl, _⟩, k⟩ := h
    exact ⟨_, PSs.nox (pss_one (ps_ret pe_non)), k⟩
theorem scN_Day : FnScope ["self"] ["self"] (defScope (cSt ("Day", "OnLine", 39, 0))) := ⟨rfl, rfl, rfl, by decide +kernel, rfl, by decide +kernel, by decide +kernel⟩
theorem nm_Day (T : KF P w K mg base) : KMt P w K mg base CX0 1 .day "named" (spNm K .day) := by
  obtain ⟨m, fd, F⟩ := T.nmd ("Day", "OnLine", 39, 0) (by decide)
  refine ⟨m, fd, F.ok scN_Day (fun vs H Q E h => ?_) (fun cdv A outer s H vs Q E hr h => ?_), FunD.bindsN F fun _ _ _ _ _ _ us hl => match us, hl with | [_], _ => rfl⟩
  · obtain ⟨a, ns, up, rfl, _⟩ := h
    rfl
  · obtain ⟨a, ns, up, rfl, ⟨dx, fs, ha, _, hl, rfl⟩, k⟩ := h
    obtain ⟨v0, rfl⟩ : ∃ v0, ns = [v0] := by
      match ns, hl with
      | [v0], _ => exact ⟨_, rfl⟩
    refine ⟨_, PSs.nox (pss_one (ps_ret (pe_tup (pa_cons (pe_fld (pv 0) rfl) pa_nil)))), ?_⟩
    refine ⟨_, rfl, a, _, dx, _, _, rfl, ha, kcls T .day, T.no ("Day", "line") (by decide), rfl, by show 1 ≤ sizeLine; rw [sizeLine_eq]; decide, fun t nt => k t _ (same_new nt) upd_same⟩
theorem scS_Day : FnScope ["self"] ["self"] (defScope (cSt ("Day", "Deed", 37, 6))) := ⟨rfl, rfl, rfl, by decide +kernel, rfl, by decide +kernel, by decide +kernel⟩
theorem st_Day (T : KF P w K mg base) : KMt P w K mg base CX0 1 .day "stop" (spSt K .day) := by
  obtain ⟨m, fd, F⟩ := T.stp ("Day", "Deed", 37, 6) (by decide)
  refine ⟨m, fd, F.ok scS_Day (fun vs H Q E h => ?_) (fun cdv A outer s H vs Q E hr h => ?_), FunD.bindsN F fun _ _ _ _ _ _ us hl => match us, hl with | [_], _ => rfl⟩
  · obtain ⟨a, ns, up, rfl, _⟩ := h
    rfl
  · obtain ⟨a, ns, up, rfl, ⟨dx, fs, ha, rfl, _⟩, k⟩ := h
    exact ⟨_, PSs.nox (pss_one (ps_ret pe_non)), k⟩
theorem scN_Try : FnScope ["self"] ["self"] (defScope (cSt ("Try", "OfTwo", 40, 0))) := ⟨rfl, rfl, rfl, by decide +kernel, rfl, by decide +kernel, by decide +kernel⟩
theorem nm_Try (T : KF P w K mg base) : KMt P w K mg base CX0 1 .try_ "named" (spNm K .try_) := by
  obtain ⟨m, fd, F⟩ := T.nmd ("Try", "OfTwo", 40, 0) (by decide)
  refine ⟨m, fd, F.ok scN_Try (fun vs H Q E h => ?_) (fun cdv A outer s H vs Q E hr h => ?_), FunD.bindsN F fun _ _ _ _ _ _ us hl => match us, hl with | [_], _ => rfl⟩
  · obtain ⟨a, ns, up, rfl, _⟩ := h
    rfl
  · obtain ⟨a, ns, up, rfl, ⟨dx, fs, ha, _, hl, rfl⟩, k⟩ := h
    obtain ⟨v0, v1, rfl⟩ : ∃ v0 v1, ns = [v0, v1] := by
      match ns, hl with
      | [v0, v1], _ => exact ⟨_, _, rfl⟩
    refine ⟨_, PSs.nox (pss_one (ps_ret (pe_tup (pa_cons (pe_fld (pv 0) rfl) (pa_cons (pe_fld (pv 0) rfl) pa_nil))))), ?_⟩
    refine ⟨_, rfl, a, _, dx, _, _, rfl, ha, kcls T .try_, T.no ("Try", "line") (by decide), rfl, _, rfl, a, _, dx, _, _, rfl, ha, kcls T .try_, T.no ("Try", "mate") (by decide), rfl, by show 2 ≤ sizeLine; rw [sizeLine_eq]; decide, fun t nt => k t _ (same_new nt) upd_same⟩
theorem scS_Try : FnScope ["self"] ["self"] (defScope (cSt ("Try", "Deed", 37, 6))) := ⟨rfl, rfl, rfl, by decide +kernel, rfl, by decide +kernel, by decide +kernel⟩
theorem st_Try (T : KF P w K mg base) : KMt P w K mg base CX0 1 .try_ "stop" (spSt K .try_) := by
  obtain ⟨m, fd, F⟩ := T.stp ("Try", "Deed", 37, 6) (by decide)
  refine ⟨m, fd, F.ok scS_Try (fun vs H Q E h => ?_) (fun cdv A outer s H vs Q E hr h => ?_), FunD.bindsN F fun _ _ _ _ _ _ us hl => match us, hl with | [_], _ => rfl⟩
  · obtain ⟨a, ns, up, rfl, _⟩ := h
    rfl
  · obtain ⟨a, ns, up, rfl, ⟨dx, fs, ha, rfl, _⟩, k⟩ := h
    exact ⟨_, PSs.nox (pss_one (ps_ret pe_non)), k⟩
theorem scN_Probe : FnScope ["self"] ["self"] (defScope (cSt ("Probe", "OfTwo", 40, 0))) := ⟨rfl, rfl, rfl, by decide +kernel, rfl, by decide +kernel, by decide +kernel⟩
theorem nm_Probe (T : KF P w K mg base) : KMt P w K mg base CX0 1 .probe "named" (spNm K .probe) := by
  obtain ⟨m, fd, F⟩ := T.nmd ("Probe", "OfTwo", 40, 0) (by decide)
  refine ⟨m, fd, F.ok scN_Probe (fun vs H Q E h => ?_) (fun cdv A outer s H vs Q E hr h => ?_), FunD.bindsN F fun _ _ _ _ _ _ us hl => match us, hl with | [_], _ => rfl⟩
  · obtain ⟨a, ns, up, rfl, _⟩ := h
    rfl
  · obtain ⟨a, ns, up, rfl, ⟨dx, fs, ha, _, hl, rfl⟩, k⟩ := h
    obtain ⟨v0, v1, rfl⟩ : ∃ v0 v1, ns = [v0, v1] := by
      match ns, hl with
      | [v0, v1], _ => exact ⟨_, _, rfl⟩
    refine ⟨_, PSs.nox (pss_one (ps_ret (pe_tup (pa_cons (pe_fld (pv 0) rfl) (pa_cons (pe_fld (pv 0) rfl) pa_nil))))), ?_⟩
    refine ⟨_, rfl, a, _, dx, _, _, rfl, ha, kcls T .probe, T.no ("Probe", "line") (by decide), rfl, _, rfl, a, _, dx, _, _, rfl, ha, kcls T .probe, T.no ("Probe", "mate") (by decide), rfl, by show 2 ≤ sizeLine; rw [sizeLine_eq]; decide, fun t nt => k t _ (same_new nt) upd_same⟩
theorem scS_Probe : FnScope ["self"] ["self"] (defScope (cSt ("Probe", "Deed", 37, 6))) := ⟨rfl, rfl, rfl, by decide +kernel, rfl, by decide +kernel, by decide +kernel⟩
theorem st_Probe (T : KF P w K mg base) : KMt P w K mg base CX0 1 .probe "stop" (spSt K .probe) := by
  obtain ⟨m, fd, F⟩ := T.stp ("Probe", "Deed", 37, 6) (by decide)
  refine ⟨m, fd, F.ok scS_Probe (fun vs H Q E h => ?_) (fun cdv A outer s H vs Q E hr h => ?_), FunD.bindsN F fun _ _ _ _ _ _ us hl => match us, hl with | [_], _ => rfl⟩
  · obtain ⟨a, ns, up, rfl, _⟩ := h
    rfl
  · obtain ⟨a, ns, up, rfl, ⟨dx, fs, ha, rfl, _⟩, k⟩ := h
    exact ⟨_, PSs.nox (pss_one (ps_ret pe_non)), k⟩
theorem scN_Meet : FnScope ["self"] ["self"] (defScope (cSt ("Meet", "OfTwo", 40, 0))) := ⟨rfl, rfl, rfl, by decide +kernel, rfl, by decide +kernel, by decide +kernel⟩
theorem nm_Meet (T : KF P w K mg base) : KMt P w K mg base CX0 1 .meet_ "named" (spNm K .meet_) := by
  obtain ⟨m, fd, F⟩ := T.nmd ("Meet", "OfTwo", 40, 0) (by decide)
  refine ⟨m, fd, F.ok scN_Meet (fun vs H Q E h => ?_) (fun cdv A outer s H vs Q E hr h => ?_), FunD.bindsN F fun _ _ _ _ _ _ us hl => match us, hl with | [_], _ => rfl⟩
  · obtain ⟨a, ns, up, rfl, _⟩ := h
    rfl
  · obtain ⟨a, ns, up, rfl, ⟨dx, fs, ha, _, hl, rfl⟩, k⟩ := h
    obtain ⟨v0, v1, rfl⟩ : ∃ v0 v1, ns = [v0, v1] := by
      match ns, hl with
      | [v0, v1], _ => exact ⟨_, _, rfl⟩
    refine ⟨_, PSs.nox (pss_one (ps_ret (pe_tup (pa_cons (pe_fld (pv 0) rfl) (pa_cons (pe_fld (pv 0) rfl) pa_nil))))), ?_⟩
    refine ⟨_, rfl, a, _, dx, _, _, rfl, ha, kcls T .meet_, T.no ("Meet", "line") (by decide), rfl, _, rfl, a, _, dx, _, _, rfl, ha, kcls T .meet_, T.no ("Meet", "mate") (by decide), rfl, by show 2 ≤ sizeLine; rw [sizeLine_eq]; decide, fun t nt => k t _ (same_new nt) upd_same⟩
theorem scS_Meet : FnScope ["self"] ["self"] (defScope (cSt ("Meet", "Deed", 37, 6))) := ⟨rfl, rfl, rfl, by decide +kernel, rfl, by decide +kernel, by decide +kernel⟩
theorem st_Meet (T : KF P w K mg base) : KMt P w K mg base CX0 1 .meet_ "stop" (spSt K .meet_) := by
  obtain ⟨m, fd, F⟩ := T.stp ("Meet", "Deed", 37, 6) (by decide)
  refine ⟨m, fd, F.ok scS_Meet (fun vs H Q E h => ?_) (fun cdv A outer s H vs Q E hr h => ?_), FunD.bindsN F fun _ _ _ _ _ _ us hl => match us, hl with | [_], _ => rfl⟩
  · obtain ⟨a, ns, up, rfl, _⟩ := h
    rfl
  · obtain ⟨a, ns, up, rfl, ⟨dx, fs, ha, rfl, _⟩, k⟩ := h
    exact ⟨_, PSs.nox (pss_one (ps_ret pe_non)), k⟩
theorem scN_Rise : FnScope ["self"] ["self"] (defScope (cSt ("Rise", "Rise", 60, 2))) := ⟨rfl, rfl, rfl, by decide +kernel, rfl, by decide +kernel, by decide +kernel⟩
theorem nm_Rise (T : KF P w K mg base) : KMt P w K mg base CX0 1 .rise "named" (spNm K .rise) := by
  obtain ⟨m, fd, F⟩ := T.nmd ("Rise", "Rise", 60, 2) (by decide)
  refine ⟨m, fd, F.ok scN_Rise (fun vs H Q E h => ?_) (fun cdv A outer s H vs Q E hr h => ?_), FunD.bindsN F fun _ _ _ _ _ _ us hl => match us, hl with | [_], _ => rfl⟩
  · obtain ⟨a, ns, up, rfl, _⟩ := h
    rfl
  · obtain ⟨a, ns, up, rfl, ⟨dx, fs, ha, t, ht, rfl⟩, k⟩ := h
    refine ⟨_, PSs.nox (pss_one (ps_ret (pe_fld (pv 0) rfl))), ?_⟩
    exact ⟨_, rfl, a, _, dx, _, _, rfl, ha, kcls T .rise, T.no ("Rise", "lines") (by decide), rfl, k t H (fun _ _ e => e) ht⟩
theorem scS_Rise : FnScope ["self"] ["self"] (defScope (cSt ("Rise", "OfMany", 41, 0))) := ⟨rfl, rfl, rfl, by decide +kernel, rfl, by decide +kernel, by decide +kernel⟩
theorem st_Rise (T : KF P w K mg base) : KMt P w K mg base CX0 1 .rise "stop" (spSt K .rise) := by
  obtain ⟨m, fd, F⟩ := T.stp ("Rise", "OfMany", 41, 0) (by decide)
  refine ⟨m, fd, F.ok scS_Rise (fun vs H Q E h => ?_) (fun cdv A outer s H vs Q E hr h => ?_), FunD.bindsN F fun _ _ _ _ _ _ us hl => match us, hl with | [_], _ => rfl⟩
  · obtain ⟨a, ns, up, rfl, _⟩ := h
    rfl
  · obtain ⟨a, ns, up, rfl, ⟨dx, fs, ha, t, ht, rfl⟩, k⟩ := h
    refine ⟨_, PSs.nox (pss_one (ps_ret (pe_fld (pv 0) rfl))), ?_⟩
    exact ⟨_, rfl, a, _, dx, _, _, rfl, ha, kcls T .rise, T.no ("Rise", "upto") (by decide), rfl, k⟩
theorem scN_Night : FnScope ["self"] ["self"] (defScope (cSt ("Night", "Night", 61, 2))) := ⟨rfl, rfl, rfl, by decide +kernel, rfl, by decide +kernel, by decide +kernel⟩
theorem nm_Night (T : KF P w K mg base) : KMt P w K mg base CX0 1 .night "named" (spNm K .night) := by
  obtain ⟨m, fd, F⟩ := T.nmd ("Night", "Night", 61, 2) (by decide)
  refine ⟨m, fd, F.ok scN_Night (fun vs H Q E h => ?_) (fun cdv A outer s H vs Q E hr h => ?_), FunD.bindsN F fun _ _ _ _ _ _ us hl => match us, hl with | [_], _ => rfl⟩
  · obtain ⟨a, ns, up, rfl, _⟩ := h
    rfl
  · obtain ⟨a, ns, up, rfl, ⟨dx, fs, ha, t, ht, rfl⟩, k⟩ := h
    refine ⟨_, PSs.nox (pss_one (ps_ret (pe_fld (pv 0) rfl))), ?_⟩
    exact ⟨_, rfl, a, _, dx, _, _, rfl, ha, kcls T .night, T.no ("Night", "lines") (by decide), rfl, k t H (fun _ _ e => e) ht⟩
theorem scS_Night : FnScope ["self"] ["self"] (defScope (cSt ("Night", "OfMany", 41, 0))) := ⟨rfl, rfl, rfl, by decide +kernel, rfl, by decide +kernel, by decide +kernel⟩
theorem st_Night (T : KF P w K mg base) : KMt P w K mg base CX0 1 .night "stop" (spSt K .night) := by
  obtain ⟨m, fd, F⟩ := T.stp ("Night", "OfMany", 41, 0) (by decide)
  refine ⟨m, fd, F.ok scS_Night (fun vs H Q E h => ?_) (fun cdv A outer s H vs Q E hr h => ?_), FunD.bindsN F fun _ _ _ _ _ _ us hl => match us, hl with | [_], _ => rfl⟩
  · obtain ⟨a, ns, up, rfl, _⟩ := h
    rfl
  · obtain ⟨a, ns, up, rfl, ⟨dx, fs, ha, t, ht, rfl⟩, k⟩ := h
    refine ⟨_, PSs.nox (pss_one (ps_ret (pe_fld (pv 0) rfl))), ?_⟩
    exact ⟨_, rfl, a, _, dx, _, _, rfl, ha, kcls T .night, T.no ("Night", "upto") (by decide), rfl, k⟩
theorem scN_Redo : FnScope ["self"] ["self"] (defScope (cSt ("Redo", "OfDay", 42, 0))) := ⟨rfl, rfl, rfl, by decide +kernel, rfl, by decide +kernel, by decide +kernel⟩
theorem nm_Redo (T : KF P w K mg base) : KMt P w K mg base CX0 1 .redo "named" (spNm K .redo) := by
  obtain ⟨m, fd, F⟩ := T.nmd ("Redo", "OfDay", 42, 0) (by decide)
  refine ⟨m, fd, F.ok scN_Redo (fun vs H Q E h => ?_) (fun cdv A outer s H vs Q E hr h => ?_), FunD.bindsN F fun _ _ _ _ _ _ us hl => match us, hl with | [_], _ => rfl⟩
  · obtain ⟨a, ns, up, rfl, _⟩ := h
    rfl
  · obtain ⟨a, ns, up, rfl, ⟨dx, fs, ha, _, hl, rfl⟩, k⟩ := h
    obtain ⟨v0, rfl⟩ : ∃ v0, ns = [v0] := by
      match ns, hl with
      | [v0], _ => exact ⟨_, rfl⟩
    refine ⟨_, PSs.nox (pss_one (ps_ret (pe_tup (pa_cons (pe_fld (pv 0) rfl) pa_nil)))), ?_⟩
    refine ⟨_, rfl, a, _, dx, _, _, rfl, ha, kcls T .redo, T.no ("Redo", "day") (by decide), rfl, by show 1 ≤ sizeLine; rw [sizeLine_eq]; decide, fun t nt => k t _ (same_new nt) upd_same⟩
theorem scS_Redo : FnScope ["self"] ["self"] (defScope (cSt ("Redo", "Deed", 37, 6))) := ⟨rfl, rfl, rfl, by decide +kernel, rfl, by decide +kernel, by decide +kernel⟩
theorem st_Redo (T : KF P w K mg base) : KMt P w K mg base CX0 1 .redo "stop" (spSt K .redo) := by
  obtain ⟨m, fd, F⟩ := T.stp ("Redo", "Deed", 37, 6) (by decide)
  refine ⟨m, fd, F.ok scS_Redo (fun vs H Q E h => ?_) (fun cdv A outer s H vs Q E hr h => ?_), FunD.bindsN F fun _ _ _ _ _ _ us hl => match us, hl with | [_], _ => rfl⟩
  · obtain ⟨a, ns, up, rfl, _⟩ := h
    rfl
  · obtain ⟨a, ns, up, rfl, ⟨dx, fs, ha, rfl, _⟩, k⟩ := h
    exact ⟨_, PSs.nox (pss_one (ps_ret pe_non)), k⟩
theorem scN_Renew : FnScope ["self"] ["self"] (defScope (cSt ("Renew", "Renew", 63, 2))) := ⟨rfl, rfl, rfl, by decide +kernel, rfl, by decide +kernel, by decide +kernel⟩
theorem nm_Renew (T : KF P w K mg base) : KMt P w K mg base CX0 1 .renew "named" (spNm K .renew) := by
  obtain ⟨m, fd, F⟩ := T.nmd ("Renew", "Renew", 63, 2) (by decide)
  refine ⟨m, fd, F.ok scN_Renew (fun vs H Q E h => ?_) (fun cdv A outer s H vs Q E hr h => ?_), FunD.bindsN F fun _ _ _ _ _ _ us hl => match us, hl with | [_], _ => rfl⟩
  · obtain ⟨a, ns, up, rfl, _⟩ := h
    rfl
  · obtain ⟨a, ns, up, rfl, ⟨dx, fs, ha, t, ht, rfl⟩, k⟩ := h
    refine ⟨_, PSs.nox (pss_one (ps_ret (pe_fld (pv 0) rfl))), ?_⟩
    exact ⟨_, rfl, a, _, dx, _, _, rfl, ha, kcls T .renew, T.no ("Renew", "days") (by decide), rfl, k t H (fun _ _ e => e) ht⟩
theorem scS_Renew : FnScope ["self"] ["self"] (defScope (cSt ("Renew", "OfMany", 41, 0))) := ⟨rfl, rfl, rfl, by decide +kernel, rfl, by decide +kernel, by decide +kernel⟩
theorem st_Renew (T : KF P w K mg base) : KMt P w K mg base CX0 1 .renew "stop" (spSt K .renew) := by
  obtain ⟨m, fd, F⟩ := T.stp ("Renew", "OfMany", 41, 0) (by decide)
  refine ⟨m, fd, F.ok scS_Renew (fun vs H Q E h => ?_) (fun cdv A outer s H vs Q E hr h => ?_), FunD.bindsN F fun _ _ _ _ _ _ us hl => match us, hl with | [_], _ => rfl⟩
  · obtain ⟨a, ns, up, rfl, _⟩ := h
    rfl
  · obtain ⟨a, ns, up, rfl, ⟨dx, fs, ha, t, ht, rfl⟩, k⟩ := h
    refine ⟨_, PSs.nox (pss_one (ps_ret (pe_fld (pv 0) rfl))), ?_⟩
    exact ⟨_, rfl, a, _, dx, _, _, rfl, ha, kcls T .renew, T.no ("Renew", "upto") (by decide), rfl, k⟩
theorem scN_Shut : FnScope ["self"] ["self"] (defScope (cSt ("Shut", "OfDay", 42, 0))) := ⟨rfl, rfl, rfl, by decide +kernel, rfl, by decide +kernel, by decide +kernel⟩
theorem nm_Shut (T : KF P w K mg base) : KMt P w K mg base CX0 1 .shut "named" (spNm K .shut) := by
  obtain ⟨m, fd, F⟩ := T.nmd ("Shut", "OfDay", 42, 0) (by decide)
  refine ⟨m, fd, F.ok scN_Shut (fun vs H Q E h => ?_) (fun cdv A outer s H vs Q E hr h => ?_), FunD.bindsN F fun _ _ _ _ _ _ us hl => match us, hl with | [_], _ => rfl⟩
  · obtain ⟨a, ns, up, rfl, _⟩ := h
    rfl
  · obtain ⟨a, ns, up, rfl, ⟨dx, fs, ha, _, hl, rfl⟩, k⟩ := h
    obtain ⟨v0, rfl⟩ : ∃ v0, ns = [v0] := by
      match ns, hl with
      | [v0], _ => exact ⟨_, rfl⟩
    refine ⟨_, PSs.nox (pss_one (ps_ret (pe_tup (pa_cons (pe_fld (pv 0) rfl) pa_nil)))), ?_⟩
    refine ⟨_, rfl, a, _, dx, _, _, rfl, ha, kcls T .shut, T.no ("Shut", "day") (by decide), rfl, by show 1 ≤ sizeLine; rw [sizeLine_eq]; decide, fun t nt => k t _ (same_new nt) upd_same⟩
theorem scS_Shut : FnScope ["self"] ["self"] (defScope (cSt ("Shut", "Deed", 37, 6))) := ⟨rfl, rfl, rfl, by decide +kernel, rfl, by decide +kernel, by decide +kernel⟩
theorem st_Shut (T : KF P w K mg base) : KMt P w K mg base CX0 1 .shut "stop" (spSt K .shut) := by
  obtain ⟨m, fd, F⟩ := T.stp ("Shut", "Deed", 37, 6) (by decide)
  refine ⟨m, fd, F.ok scS_Shut (fun vs H Q E h => ?_) (fun cdv A outer s H vs Q E hr h => ?_), FunD.bindsN F fun _ _ _ _ _ _ us hl => match us, hl with | [_], _ => rfl⟩
  · obtain ⟨a, ns, up, rfl, _⟩ := h
    rfl
  · obtain ⟨a, ns, up, rfl, ⟨dx, fs, ha, rfl, _⟩, k⟩ := h
    exact ⟨_, PSs.nox (pss_one (ps_ret pe_non)), k⟩
theorem nm_k (T : KF P w K mg base) (k : Kd) : KMt P w K mg base CX0 1 k "named" (spNm K k) := by
  cases k
  · exact nm_Fix T
  · exact nm_Unfix T
  · exact nm_Cut T
  · exact nm_Carry T
  · exact nm_Drop T
  · exact nm_Merge T
  · exact nm_End T
  · exact nm_Offer T
  · exact nm_Live T
  · exact nm_Down T
  · exact nm_Day T
  · exact nm_Try T
  · exact nm_Probe T
  · exact nm_Meet T
  · exact nm_Rise T
  · exact nm_Night T
  · exact nm_Redo T
  · exact nm_Renew T
  · exact nm_Shut T
theorem st_k (T : KF P w K mg base) (k : Kd) : KMt P w K mg base CX0 1 k "stop" (spSt K k) := by
  cases k
  · exact st_Fix T
  · exact st_Unfix T
  · exact st_Cut T
  · exact st_Carry T
  · exact st_Drop T
  · exact st_Merge T
  · exact st_End T
  · exact st_Offer T
  · exact st_Live T
  · exact st_Down T
  · exact st_Day T
  · exact st_Try T
  · exact st_Probe T
  · exact st_Meet T
  · exact st_Rise T
  · exact st_Night T
  · exact st_Redo T
  · exact st_Renew T
  · exact st_Shut T
end
end K8
set_option Elab.async false
set_option linter.all false
set_option maxRecDepth 100000
set_option maxHeartbeats 2000000
/-! str of a deed. -/
namespace K8
open PySem PySem.Spec PyProof.Rows L2 RV EV He EF EI LamX
def txtV (v : V) : Str := match v with
  | .str x => x
  | .int i => iS i
  | _ => ""
def TxV (v : V) : Prop := (∃ x : Str, v = .str x ∧ x.length ≤ 1000) ∨ ∃ i : Int, v = .int i ∧ 0 ≤ i ∧ i ≤ 200
def deedT (k : Kd) (ns : List V) (up : V) : List Str := k.word :: (ns.map txtV ++ (if up = .non then [] else (["to", txtV up] : List Str)))
theorem call_or {X : Cx} {f : Value} {r1 r2 : List V → Hp → VK → Prop} (h1 : CallR X f r1) (h2 : CallR X f r2) : CallR X f (fun xs H Q => r1 xs H Q ∨ r2 xs H Q) := by
  intro pins s σ H xs us Q I r h
  rcases h with h | h
  · exact h1 pins s σ H xs us Q I r h
  · exact h2 pins s σ H xs us Q I r h
abbrev rStrV : List V → Hp → VK → Prop := fun xs H Q => (∃ a, xs = [V.str a] ∧ Q (.str a) H) ∨ rStrI xs H Q
theorem er_strV {σ : L2.St} {H : Hp} {te : TE} {v : V} (h : ER te σ H (IsV v)) (hv : TxV v) : ER (tCB rStrV (tCons te tNil)) σ H (IsV (.str (txtV v))) :=
  h.cb fun x H1 F s e k => by
    obtain rfl := e
    rcases hv with ⟨a, rfl, _⟩ | ⟨i, rfl, hi⟩
    · exact .inl ⟨a, rfl, k _ H1 same_rfl rfl⟩
    · exact .inr ⟨i, rfl, (lenV hi).1, k _ H1 same_rfl rfl⟩
theorem lookup_no {fs : List (Str × V)} {f : Str} (h : ∀ p ∈ fs, p.1 ≠ f) : fs.lookup f = none := by
  induction fs with
  | nil => rfl
  | cons p fs ih =>
    obtain ⟨a, b⟩ := p
    have h1 : (f == a) = false := beq_false_of_ne (fun e => h (a, b) (by simp) e.symm)
    rw [List.lookup_cons, h1]
    exact ih fun q hq => h q (by simp [hq])
def fieldsL : List Str := ["fix", "line", "mate", "day", "lines", "days", "upto"]
theorem shp_fields {k : Kd} {H : Hp} {fs : List (Str × V)} {ns : List V} {up : V} (h : k.shp.at H fs ns up) : ∀ p ∈ fs, p.1 ∈ fieldsL := by
  have hz : ∀ (gs : List Str), (∀ g ∈ gs, g ∈ fieldsL) → ∀ p ∈ gs.zip ns, p.1 ∈ fieldsL := fun gs hg p hp => hg _ (List.of_mem_zip hp).1
  cases k <;> first
    | (obtain ⟨_, _, rfl⟩ := h; exact hz _ (by decide))
    | (obtain ⟨v, _, rfl⟩ := h; intro p hp; simp only [List.mem_cons, List.not_mem_nil, or_false] at hp; rcases hp with rfl | rfl <;> first | exact (by decide : ("line" : Str) ∈ fieldsL) | exact (by decide : ("upto" : Str) ∈ fieldsL) | exact (by decide : ("lines" : Str) ∈ fieldsL) | exact (by decide : ("days" : Str) ∈ fieldsL))
theorem strV_go {v : V} {H : Hp} {F : VK} (hv : TxV v) (k : F (.str (txtV v)) H) : rStrV [v] H F := by
  rcases hv with ⟨a, rfl, _⟩ | ⟨i, rfl, hi⟩
  · exact .inl ⟨a, rfl, k⟩
  · exact .inr ⟨i, rfl, (lenV hi).1, k⟩
theorem txtV_len {v : V} (h : TxV v) : (txtV v).length ≤ 1000 := by
  rcases h with ⟨a, rfl, h⟩ | ⟨i, rfl, hi⟩
  · exact h
  · have := (lenV hi).2.1
    show (iS i).length ≤ 1000
    omega
theorem sum_le {xs : List Str} (h : ∀ x ∈ xs, x.length ≤ 1000) : (xs.map (·.length)).sum ≤ 1000 * xs.length := by
  induction xs with
  | nil => simp
  | cons x xs ih =>
    rw [List.map_cons, List.sum_cons, List.length_cons]
    have h1 := h x (by simp)
    have h2 := ih fun y hy => h y (by simp [hy])
    omega
theorem Kd.word_len (k : Kd) : k.word.length ≤ 1000 := by cases k <;> decide
def spSr (K : PySem.W.Frag) (k : Kd) : Sp := fun vs H Q _ => ∃ a ns up, vs = [.ref a] ∧ IsD K H a k ns up ∧ ns.length ≤ 300 ∧ (∀ v ∈ ns, TxV v) ∧ (up = .non ∨ TxV up) ∧ ∀ H', Same H H' → Q (.str (Txt.join " " (deedT k ns up))) H'
section
variable {P : Program} {w : World} {K : PySem.W.Frag} {mg : Str → Option Value} {base : Heap}
abbrev scSr_N : List Str := ["self", "told", "part"]
theorem scSr : FnScope scSr_N ["self"] (defScope (dSt 3)) := ⟨rfl, rfl, rfl, by decide +kernel, rfl, by decide +kernel, by decide +kernel⟩
theorem kcon (T : KF P w K mg base) (k : Kd) : ∃ t, Con K (ga K k.cls) "KIND" (.str k.word) (.str k.word t) := by
  have h := T.knd _ k.kn
  unfold kindB at h
  split at h
  · rename_i y t e
    obtain ⟨e1, e2⟩ := ba h
    have := of_decide_eq_true e1
    subst this
    exact ⟨t, e, ⟨t, rfl⟩, eqO_ok e2, by decide +kernel⟩
  · cases h
theorem sr_k (T : KF P w K mg base) (k : Kd) : KMt P w K mg base CX0 2 k "__str__" (spSr K k) := by
  obtain ⟨m, fd, F⟩ := T.str _ k.kn
  obtain ⟨mN, fN, GN, bN⟩ := nm_k (w := w) T k
  obtain ⟨mS, fS, GS, bS⟩ := st_k (w := w) T k
  obtain ⟨tk, con⟩ := kcon T k
  have cl := kcls T k
  refine ⟨m, fd, F.ok scSr (fun vs H Q E h => ?_) (fun cdv A outer s H vs Q E hr h => ?_), FunD.bindsN F fun _ _ _ _ _ _ us hl => match us, hl with | [_], _ => rfl⟩
  · obtain ⟨a, ns, up, rfl, _⟩ := h
    rfl
  · obtain ⟨a, ns, up, rfl, hd, hn, tv, tu, k0⟩ := h
    refine ⟨_, PSs.nox (pss_cons (ps_set (i := 1) scSr.nd rfl (.inl rfl) (pe_lst (pa_cons (pe_con (pv 0) rfl) (StX.pa_star
        (pe_lc (own := [("part", 2)]) (g := gName 2) (tt := tYes) (te := tCB rStrV (tCons (tVar 2) tNil)) rfl scSr.nd (pi_tup (pe_meth0 (E := E0) (pv 0) cl mN GN (hr.mono (by decide)) bN .nil pass0)) (blkOk_by (N := scSr_N) (sc := defScope (dSt 3)) (by decide +kernel))
          (fun _ _ _ _ _ => pg_name (i := 2) scSr.nd rfl (.inl rfl)) (fun _ _ _ _ _ => pts_nil) (fun _ _ _ _ _ => pe_callTy (call_or SkE.call_str_str call_str_int) (by rfl) (T.fr "str" (by decide)) boot_T (pa_cons (pv 2) pa_nil))) pa_nil))))
      (pss_cons (ps_if (pt_cmp (pc_notN (pe_meth0 (E := E0) (pv 0) cl mS GS (hr.mono (by decide)) bS .nil pass0)))
        (pss_one (ps_set (i := 1) scSr.nd rfl (.inl rfl) (pe_lst (StX.pa_star (pv 1) (pa_cons pe_str (pa_cons (pe_callTy (call_or SkE.call_str_str call_str_int) (by rfl) (T.fr "str" (by decide)) boot_T (pa_cons (pe_meth0 (E := E0) (pv 0) cl mS GS (hr.mono (by decide)) bS .nil pass0) pa_nil)) pa_nil)))))) pss_nil)
      (pss_one (ps_ret (pe_join pe_str (pv 1)))))), ?_⟩
    have hd0 := hd
    obtain ⟨dx, fs, hp, hshp⟩ := hd0
    have look : ∀ f : Str, (f = "KIND" ∨ f = "named" ∨ f = "stop") → fs.lookup f = none := fun f hf => lookup_no fun p hp e => by
      have h1 := shp_fields hshp p hp
      rw [e] at h1
      rcases hf with rfl | rfl | rfl <;> exact absurd h1 (by decide)
    have hs : L2.start scSr_N [.ref a] = [some (.ref a), none, none] := rfl
    rw [hs]
    refine ⟨_, rfl, a, ga K k.cls, dx, fs, .str k.word, _, rfl, hp, cl, con, look _ (.inl rfl), ?_⟩
    have nmr : ER (tMeth (ga K k.cls) "named" (spNm K k) [] E0 (tVar 0) tNil) [some (.ref a), none, none] H (AtT (ns.map id)) := fun H1 s1 F q =>
      ⟨_, rfl, a, dx, fs, rfl, s1 _ _ hp, look _ (.inr (.inl rfl)), a, ns, up, rfl, hd.same s1, fun t H2 s2 ht => q _ H2 s2 ⟨t, rfl, by rw [List.map_id]; exact ht⟩⟩
    have lc := er_lct (K := K) (σ := [some (.ref a), none, none]) (i := 2) (p := fun _ => true) (enc := id) (out := fun v => V.str (txtV v)) (ns := ns) nmr (by omega) (fun _ => rfl) (fun z _ _ _ => yes_test) (fun z hz _ H1 s1 => er_strV (er_v (i := 2) rfl) (tv z hz))
    refine lc.go fun v1 H1 s1 ⟨l, e1, hl⟩ => ?_
    obtain rfl := e1
    rw [all_yes, show (ns.map fun v => V.str (txtV v)) = (ns.map txtV).map V.str from (List.map_map ..).symm] at hl
    have z1 : ∀ x ∈ ns.map txtV, x.length ≤ 1000 := fun x hx => by
      obtain ⟨v, hv, rfl⟩ := List.mem_map.mp hx
      exact txtV_len (tv v hv)
    refine ⟨l, _, rfl, .inr (SqL.of hl), by rw [List.append_nil, List.length_cons, List.length_map, List.length_map, sizeLine_eq]; omega, fun L nL => ?_⟩
    have s2 := s1.trans (same_new (o := .lst (.str k.word :: ((ns.map txtV).map V.str ++ []))) nL)
    refine ⟨_, rfl, a, dx, _, rfl, s2 _ _ hp, look _ (.inr (.inr rfl)), ?_⟩
    refine ⟨a, ns, up, rfl, hd.same s2, _, rfl, ?_⟩
    rcases tu with rfl | tu
    · refine if_negB rfl ?_
      refine ⟨⟨_, rfl⟩, _, rfl, " ", L, k.word :: ns.map txtV, rfl, rfl, .inl (SqL.of (by rw [upd_same, List.append_nil]; rfl)), ?_, ?_⟩
      · have := sum_le (xs := k.word :: ns.map txtV) fun x hx => by
          rcases List.mem_cons.mp hx with rfl | hx
          · exact k.word_len
          · exact z1 x hx
        rw [List.length_cons, List.length_map] at this ⊢
        have e : (" " : Str).length = 1 := by decide
        rw [e]
        omega
      · have := k0 _ s2
        unfold deedT at this
        rw [if_pos rfl, List.append_nil] at this
        exact this
    · have un : up ≠ .non := fun z => by
        rcases tu with ⟨_, e, _⟩ | ⟨_, e, _⟩ <;> rw [z] at e <;> cases e
      have isn : (!decide (up = .non)) = true := by rw [decide_eq_false un]; rfl
      refine if_posB (by rcases tu with ⟨_, rfl, _⟩ | ⟨_, rfl, _⟩ <;> rfl) ?_
      refine ⟨_, rfl, L, _, rfl, .inr (SqL.of upd_same), ?_⟩
      have fin : ∃ y, txtV up = y ∧ ((up = .str y) ∨ ∃ i : Int, up = .int i ∧ i.natAbs.log2 < 1920 ∧ y = iS i) := by
        rcases tu with ⟨x, rfl, _⟩ | ⟨i, rfl, hi⟩
        · exact ⟨x, rfl, .inl rfl⟩
        · exact ⟨_, rfl, .inr ⟨i, rfl, (lenV hi).1, rfl⟩⟩
      obtain ⟨y, ey, fin⟩ := fin
      refine ⟨_, rfl, a, dx, _, rfl, s2 _ _ hp, look _ (.inr (.inr rfl)), a, ns, up, rfl, hd.same s2, ?_⟩
      have s3 : ∀ L2, upd H1 L (.lst (.str k.word :: ((ns.map txtV).map V.str ++ []))) L2 = none → Same H (upd (upd H1 L (.lst (.str k.word :: ((ns.map txtV).map V.str ++ [])))) L2 (.lst ((.str k.word :: ((ns.map txtV).map V.str ++ [])) ++ [.str "to", .str y]))) := fun L2 nL2 => s2.trans (same_new nL2)
      have zz : ((V.str k.word :: ((ns.map txtV).map V.str ++ [])) ++ [V.str "to", V.str y]).length ≤ sizeLine := by
        simp only [List.append_nil, List.length_cons, List.length_append, List.length_map, List.length_nil, sizeLine_eq]
        omega
      have el : ((V.str k.word :: ((ns.map txtV).map V.str ++ [])) ++ [V.str "to", V.str y]) = (deedT k ns up).map V.str := by
        unfold deedT
        rw [if_neg un, List.append_nil, List.map_cons, List.map_append, ey]
        rfl
      have js : ((deedT k ns up).map (·.length)).sum + (deedT k ns up).length * (" " : Str).length ≤ 16777216 := by
        have := sum_le (xs := deedT k ns up) fun x hx => by
          unfold deedT at hx
          rw [if_neg un] at hx
          rcases List.mem_cons.mp hx with rfl | hx
          · exact k.word_len
          · rcases List.mem_append.mp hx with hx | hx
            · exact z1 x hx
            · simp only [List.mem_cons, List.not_mem_nil, or_false] at hx
              rcases hx with rfl | rfl
              · decide
              · exact txtV_len tu
        have l2 : (deedT k ns up).length = ns.length + 3 := by
          unfold deedT
          rw [if_neg un]
          simp
        have e : (" " : Str).length = 1 := by decide
        rw [e]
        omega
      rcases fin with e | ⟨i, e, hi, rfl⟩
      · exact .inl ⟨y, by rw [e], zz, fun L2 nL2 => ⟨⟨_, rfl⟩, _, rfl, " ", L2, deedT k ns up, rfl, rfl, .inl (SqL.of (by rw [← el]; exact upd_same)), js, k0 _ (s3 L2 nL2)⟩⟩
      · exact .inr ⟨i, by rw [e], hi, zz, fun L2 nL2 => ⟨⟨_, rfl⟩, _, rfl, " ", L2, deedT k ns up, rfl, rfl, .inl (SqL.of (by rw [← el]; exact upd_same)), js, k0 _ (s3 L2 nL2)⟩⟩
end
end K8
set_option Elab.async false
set_option linter.all false
set_option maxRecDepth 100000
set_option maxHeartbeats 2000000
/-! Deeds made. -/
namespace Oo
open PySem PySem.Spec PyProof.Rows L2 PySem.W
/-- a class whose instances are made without an own __init__ -/
structure Mk0 (K : Frag) (C : Addr) : Prop where
  makes : makesIn K C = true
  init : findIn K (.ref C) "__init__" = some (some (.builtin "object.__init__"))
  top : mroIn K C (.type "object") = some true
  kp : keepIn K (.ref C) = true
section
variable {X : Cx} {C : Addr} {x : Str} {p1 pos : Pos}
def tNew00 (C : Addr) : TE := fun _ H Q => ∀ y dx, H y = none → H dx = none → dx ≠ y → Q (.ref y) (upd (upd H dx (.own y)) y (.ins C dx []))
theorem pe_new00 (M : Mk0 X.K C) (hg : Gl X x) (hm : X.mg x = some (.ref C)) (hd : (x == ("__debug__" : Str)) = false := by decide) : PE X (.Call (.Name x p1) [] [] pos) (tNew00 C) := by
  refine ⟨fun pins s σ H Q I h => ?_⟩
  refine wpAny_Call_Name_kw (ld_glob I hg hm ?_ hd)
  refine callWith_K0 (first := []) I.kIn M.kp (wpAny_call (make_map0 I.kIn M.makes M.init (fun self => Looks.of_pure (oi_bind self)) ?_))
  have hq := h (s.heap.objs.size + 1) s.heap.objs.size (I.hok.fresh (Nat.le_succ _)) (I.hok.fresh (Nat.le_refl _)) (Nat.ne_of_lt (Nat.lt_succ_self _))
  have I2 := Inv.made (C := C) I
  have X2 : X.K.In ((s.heap.push emptyDict).push (instObj C s.heap.objs.size)) := I2.kIn
  have ho : ((s.heap.push emptyDict).push (instObj C s.heap.objs.size)).get? (s.heap.objs.size + 1) = some (instObj C s.heap.objs.size) := by
    have := Heap.get?_push_size (s.heap.push emptyDict) (o := instObj C s.heap.objs.size) rfl
    rwa [Heap.size_push] at this
  have t1 : Looks (model X.prog X.w) ((s.heap.push emptyDict).push (instObj C s.heap.objs.size)) (typeOf (.ref (s.heap.objs.size + 1))) (.ref C) := NwA.type_at ho rfl
  have t2 : Looks (model X.prog X.w) ((s.heap.push emptyDict).push (instObj C s.heap.objs.size)) (isInstance (.ref (s.heap.objs.size + 1)) (.type "object")) true := t1.andThen (looks_mroIn X2 M.top)
  refine codeAny_call_builtin oi_plain entry_oi (@check_slot (model X.prog X.w) _ _ _ "object.__init__" "object" "__init__" (.ref (s.heap.objs.size + 1)) [] [] _ oi_kind oi_split t2 (NwA.oi_args_any (.ref (s.heap.objs.size + 1)) [] []) ?_)
  rw [oi_run]
  exact wpAny_pure (And.intro rfl ⟨.ref (s.heap.objs.size + 1), _, I2, rfl, hq⟩)
end
end Oo
namespace K8
open PySem PySem.Spec PyProof.Rows L2 RV EV He EF EI LamX
theorem same_obj {H : Hp} {x dx : Addr} {o1 o2 : HO} (hx : H x = none) (hd : H dx = none) : Same H (upd (upd H dx o1) x o2) := fun c u e => by
  rw [upd_ne (ne_of_none e hx), upd_ne (ne_of_none e hd)]
  exact e
theorem same_made {H H' : Hp} {x dx : Addr} {o1 o2 : HO} (hx : H x = none) (hd : H dx = none) (s : Same2 (upd (upd H dx o1) x o2) H' x) : Same H H' := fun c u e => by
  refine s c u (ne_of_none e hx) ?_
  rw [upd_ne (ne_of_none e hx), upd_ne (ne_of_none e hd)]
  exact e
section
variable {K : PySem.W.Frag} {C : Addr} {n : Nat} {oc : List V → Option Err} {fl : List V → List (Str × V)} {H : Hp} {E : XK} {Q : VK} {as : List V}
theorem mk_f (hl : as.length = n) (ao : AllOdd H as) (h : oc as = none) (k : ∀ x dx H', Same H H' → H' x = some (.ins C dx (fl as)) → Q (.ref x) H') : Oo.wNew C (spMk K C n oc fl) E as H Q := by
  intro x dx nx nd _
  refine ⟨x, dx, as, rfl, hl, upd_same, ao.ext (Same.extN (same_obj nx nd)), ?_⟩
  rw [h]
  exact fun H' s e => ⟨rfl, k x dx H' (same_made nx nd s) e⟩
theorem mks_f {ocs : V → List V → Option Err} {f g : Str} {u : V} (hz : as.length ≤ sizeLine) (uo : ∃ d, Odd H u d) (ao : AllOdd H as) (h : ocs u as = none) (k : ∀ x dx t H', Same H H' → H' t = some (.tup as) → H' x = some (.ins C dx [(f, .ref t), (g, u)]) → Q (.ref x) H') : Sk.wSK C (Sk.spSK (spMkS K C ocs f g)) E as u H Q := by
  intro x dx nx nd _
  refine ⟨.ref x, as, rfl, hz, fun p np => ?_⟩
  have s0 : Same H (upd (upd H dx (.own x)) x (.ins C dx [])) := same_obj nx nd
  have s1 : Same (upd (upd H dx (.own x)) x (.ins C dx [])) (upd (upd (upd H dx (.own x)) x (.ins C dx [])) p (.tup as)) := same_new np
  have nep : p ≠ x := fun e => by rw [e, upd_same] at np; cases np
  obtain ⟨d, o⟩ := uo
  refine ⟨x, dx, u, p, as, rfl, by rw [upd_ne (Ne.symm nep)]; exact upd_same, upd_same, ⟨d, (o.same s0).same s1⟩, ao.ext (Same.extN (s0.trans s1)), ?_⟩
  rw [h]
  refine fun H' s e => ⟨rfl, k x dx p H' (fun c v e2 => ?_) (s _ _ nep upd_same) e⟩
  refine s c v (ne_of_none e2 nx) ?_
  exact (s0.trans s1) _ _ e2
end
section
variable {P : Program} {w : World} {K : PySem.W.Frag} {mg : Str → Option Value} {base : Heap}
abbrev ocFix : List V → Option Err := oc1 fun v => (ckFix v)
abbrev flFix : List V → List (Str × V) := fun as => match as with | [v] => [("fix", v)] | _ => []
abbrev spDFix (K : PySem.W.Frag) : Sp := spMk K (ga K "Fix") 1 ocFix flFix
theorem m_Fix (T : KF P w K mg base) : ∃ fd, FnOk P w K mg base (L2.CX P w) 5 (ma K (ga K "Fix") "__init__") fd ["self", "fix"] (spDFix K) ∧ L2.Binds K fd ["self", "fix"] [] ∧ Mk K (ga K "Fix") (ma K (ga K "Fix") "__init__") ∧ mg "Fix" = some (.ref (ga K "Fix")) := by
  obtain ⟨fd, F⟩ := T.ik ("Fix", 46) (by decide)
  obtain ⟨g, _, m⟩ := T.gk ("Fix", 46) (by decide)
  exact ⟨fd, ok_Fix T F, FunD.bindsN F fun _ _ _ _ _ _ us hl => match us, hl with | [_, _], _ => rfl, m, g⟩
abbrev ocUnfix : List V → Option Err := oc1 fun v => (ckFix v)
abbrev flUnfix : List V → List (Str × V) := fun as => match as with | [v] => [("fix", v)] | _ => []
abbrev spDUnfix (K : PySem.W.Frag) : Sp := spMk K (ga K "Unfix") 1 ocUnfix flUnfix
theorem m_Unfix (T : KF P w K mg base) : ∃ fd, FnOk P w K mg base (L2.CX P w) 5 (ma K (ga K "Unfix") "__init__") fd ["self", "fix"] (spDUnfix K) ∧ L2.Binds K fd ["self", "fix"] [] ∧ Mk K (ga K "Unfix") (ma K (ga K "Unfix") "__init__") ∧ mg "Unfix" = some (.ref (ga K "Unfix")) := by
  obtain ⟨fd, F⟩ := T.ik ("Unfix", 47) (by decide)
  obtain ⟨g, _, m⟩ := T.gk ("Unfix", 47) (by decide)
  exact ⟨fd, ok_Unfix T F, FunD.bindsN F fun _ _ _ _ _ _ us hl => match us, hl with | [_, _], _ => rfl, m, g⟩
abbrev ocCarry : List V → Option Err := oc2 fun v u => (thenE (ckFix v) (ckLine 1 u))
abbrev flCarry : List V → List (Str × V) := fun as => match as with | [v, u] => [("fix", v), ("line", u)] | _ => []
abbrev spDCarry (K : PySem.W.Frag) : Sp := spMk K (ga K "Carry") 2 ocCarry flCarry
theorem m_Carry (T : KF P w K mg base) : ∃ fd, FnOk P w K mg base (L2.CX P w) 5 (ma K (ga K "Carry") "__init__") fd ["self", "fix", "line"] (spDCarry K) ∧ L2.Binds K fd ["self", "fix", "line"] [] ∧ Mk K (ga K "Carry") (ma K (ga K "Carry") "__init__") ∧ mg "Carry" = some (.ref (ga K "Carry")) := by
  obtain ⟨fd, F⟩ := T.ik ("Carry", 49) (by decide)
  obtain ⟨g, _, m⟩ := T.gk ("Carry", 49) (by decide)
  exact ⟨fd, ok_Carry T F, FunD.bindsN F fun _ _ _ _ _ _ us hl => match us, hl with | [_, _, _], _ => rfl, m, g⟩
abbrev ocDrop : List V → Option Err := oc2 fun v u => (thenE (ckFix v) (ckLine 1 u))
abbrev flDrop : List V → List (Str × V) := fun as => match as with | [v, u] => [("fix", v), ("line", u)] | _ => []
abbrev spDDrop (K : PySem.W.Frag) : Sp := spMk K (ga K "Drop") 2 ocDrop flDrop
theorem m_Drop (T : KF P w K mg base) : ∃ fd, FnOk P w K mg base (L2.CX P w) 5 (ma K (ga K "Drop") "__init__") fd ["self", "fix", "line"] (spDDrop K) ∧ L2.Binds K fd ["self", "fix", "line"] [] ∧ Mk K (ga K "Drop") (ma K (ga K "Drop") "__init__") ∧ mg "Drop" = some (.ref (ga K "Drop")) := by
  obtain ⟨fd, F⟩ := T.ik ("Drop", 50) (by decide)
  obtain ⟨g, _, m⟩ := T.gk ("Drop", 50) (by decide)
  exact ⟨fd, ok_Drop T F, FunD.bindsN F fun _ _ _ _ _ _ us hl => match us, hl with | [_, _, _], _ => rfl, m, g⟩
abbrev ocMerge : List V → Option Err := oc2 fun v u => (thenE (ckLine 1 v) (ckUp u))
abbrev flMerge : List V → List (Str × V) := fun as => match as with | [v, u] => [("line", v), ("upto", u)] | _ => []
abbrev spDMerge (K : PySem.W.Frag) : Sp := spMk K (ga K "Merge") 2 ocMerge flMerge
theorem m_Merge (T : KF P w K mg base) : ∃ fd, FnOk P w K mg base (L2.CX P w) 5 (ma K (ga K "Merge") "__init__") fd ["self", "line", "upto"] (spDMerge K) ∧ L2.Binds K fd ["self", "line", "upto"] [] ∧ Mk K (ga K "Merge") (ma K (ga K "Merge") "__init__") ∧ mg "Merge" = some (.ref (ga K "Merge")) := by
  obtain ⟨fd, F⟩ := T.ik ("Merge", 51) (by decide)
  obtain ⟨g, _, m⟩ := T.gk ("Merge", 51) (by decide)
  refine ⟨fd, ok_Merge T F, ?_, m, g⟩
  obtain ⟨ds, r, b⟩ := FunD.binds1 F (ps := ["self", "line", "upto"]) 3 1 (fun z => nomatch z) rfl fun T kV doc pm an cdv ct us its h1 h2 => match us, its, h1, h2 with
    | [_, _, _], [_], _, _ => ⟨_, rfl, rfl⟩
  cases r
  exact b
abbrev ocEnd : List V → Option Err := oc1 fun v => (ckLine 1 v)
abbrev flEnd : List V → List (Str × V) := fun as => match as with | [v] => [("line", v)] | _ => []
abbrev spDEnd (K : PySem.W.Frag) : Sp := spMk K (ga K "End") 1 ocEnd flEnd
theorem m_End (T : KF P w K mg base) : ∃ fd, FnOk P w K mg base (L2.CX P w) 5 (ma K (ga K "End") "__init__") fd ["self", "line"] (spDEnd K) ∧ L2.Binds K fd ["self", "line"] [] ∧ Mk K (ga K "End") (ma K (ga K "End") "__init__") ∧ mg "End" = some (.ref (ga K "End")) := by
  obtain ⟨fd, F⟩ := T.ik ("End", 52) (by decide)
  obtain ⟨g, _, m⟩ := T.gk ("End", 52) (by decide)
  exact ⟨fd, ok_End T F, FunD.bindsN F fun _ _ _ _ _ _ us hl => match us, hl with | [_, _], _ => rfl, m, g⟩
abbrev ocOffer : List V → Option Err := oc1 fun v => (ckLine 1 v)
abbrev flOffer : List V → List (Str × V) := fun as => match as with | [v] => [("line", v)] | _ => []
abbrev spDOffer (K : PySem.W.Frag) : Sp := spMk K (ga K "Offer") 1 ocOffer flOffer
theorem m_Offer (T : KF P w K mg base) : ∃ fd, FnOk P w K mg base (L2.CX P w) 5 (ma K (ga K "Offer") "__init__") fd ["self", "line"] (spDOffer K) ∧ L2.Binds K fd ["self", "line"] [] ∧ Mk K (ga K "Offer") (ma K (ga K "Offer") "__init__") ∧ mg "Offer" = some (.ref (ga K "Offer")) := by
  obtain ⟨fd, F⟩ := T.ik ("Offer", 53) (by decide)
  obtain ⟨g, _, m⟩ := T.gk ("Offer", 53) (by decide)
  exact ⟨fd, ok_Offer T F, FunD.bindsN F fun _ _ _ _ _ _ us hl => match us, hl with | [_, _], _ => rfl, m, g⟩
abbrev ocLive : List V → Option Err := oc1 fun v => (ckLine 1 v)
abbrev flLive : List V → List (Str × V) := fun as => match as with | [v] => [("line", v)] | _ => []
abbrev spDLive (K : PySem.W.Frag) : Sp := spMk K (ga K "Live") 1 ocLive flLive
theorem m_Live (T : KF P w K mg base) : ∃ fd, FnOk P w K mg base (L2.CX P w) 5 (ma K (ga K "Live") "__init__") fd ["self", "line"] (spDLive K) ∧ L2.Binds K fd ["self", "line"] [] ∧ Mk K (ga K "Live") (ma K (ga K "Live") "__init__") ∧ mg "Live" = some (.ref (ga K "Live")) := by
  obtain ⟨fd, F⟩ := T.ik ("Live", 54) (by decide)
  obtain ⟨g, _, m⟩ := T.gk ("Live", 54) (by decide)
  exact ⟨fd, ok_Live T F, FunD.bindsN F fun _ _ _ _ _ _ us hl => match us, hl with | [_, _], _ => rfl, m, g⟩
abbrev ocDown : List V → Option Err := oc1 fun v => (ckLine 1 v)
abbrev flDown : List V → List (Str × V) := fun as => match as with | [v] => [("line", v)] | _ => []
abbrev spDDown (K : PySem.W.Frag) : Sp := spMk K (ga K "Down") 1 ocDown flDown
theorem m_Down (T : KF P w K mg base) : ∃ fd, FnOk P w K mg base (L2.CX P w) 5 (ma K (ga K "Down") "__init__") fd ["self", "line"] (spDDown K) ∧ L2.Binds K fd ["self", "line"] [] ∧ Mk K (ga K "Down") (ma K (ga K "Down") "__init__") ∧ mg "Down" = some (.ref (ga K "Down")) := by
  obtain ⟨fd, F⟩ := T.ik ("Down", 55) (by decide)
  obtain ⟨g, _, m⟩ := T.gk ("Down", 55) (by decide)
  exact ⟨fd, ok_Down T F, FunD.bindsN F fun _ _ _ _ _ _ us hl => match us, hl with | [_, _], _ => rfl, m, g⟩
abbrev ocDay : List V → Option Err := oc1 fun v => (ckLine 1 v)
abbrev flDay : List V → List (Str × V) := fun as => match as with | [v] => [("line", v)] | _ => []
abbrev spDDay (K : PySem.W.Frag) : Sp := spMk K (ga K "Day") 1 ocDay flDay
theorem m_Day (T : KF P w K mg base) : ∃ fd, FnOk P w K mg base (L2.CX P w) 5 (ma K (ga K "Day") "__init__") fd ["self", "line"] (spDDay K) ∧ L2.Binds K fd ["self", "line"] [] ∧ Mk K (ga K "Day") (ma K (ga K "Day") "__init__") ∧ mg "Day" = some (.ref (ga K "Day")) := by
  obtain ⟨fd, F⟩ := T.ik ("Day", 56) (by decide)
  obtain ⟨g, _, m⟩ := T.gk ("Day", 56) (by decide)
  exact ⟨fd, ok_Day T F, FunD.bindsN F fun _ _ _ _ _ _ us hl => match us, hl with | [_, _], _ => rfl, m, g⟩
abbrev ocTry : List V → Option Err := oc2 fun v u => (thenE (ckLine 1 v) (ckLine (intV v + 1) u))
abbrev flTry : List V → List (Str × V) := fun as => match as with | [v, u] => [("line", v), ("mate", u)] | _ => []
abbrev spDTry (K : PySem.W.Frag) : Sp := spMk K (ga K "Try") 2 ocTry flTry
theorem m_Try (T : KF P w K mg base) : ∃ fd, FnOk P w K mg base (L2.CX P w) 5 (ma K (ga K "Try") "__init__") fd ["self", "line", "mate"] (spDTry K) ∧ L2.Binds K fd ["self", "line", "mate"] [] ∧ Mk K (ga K "Try") (ma K (ga K "Try") "__init__") ∧ mg "Try" = some (.ref (ga K "Try")) := by
  obtain ⟨fd, F⟩ := T.ik ("Try", 57) (by decide)
  obtain ⟨g, _, m⟩ := T.gk ("Try", 57) (by decide)
  exact ⟨fd, ok_Try T F, FunD.bindsN F fun _ _ _ _ _ _ us hl => match us, hl with | [_, _, _], _ => rfl, m, g⟩
abbrev ocProbe : List V → Option Err := oc2 fun v u => (thenE (ckLine 1 v) (ckMate (intV v) u))
abbrev flProbe : List V → List (Str × V) := fun as => match as with | [v, u] => [("line", v), ("mate", u)] | _ => []
abbrev spDProbe (K : PySem.W.Frag) : Sp := spMk K (ga K "Probe") 2 ocProbe flProbe
theorem m_Probe (T : KF P w K mg base) : ∃ fd, FnOk P w K mg base (L2.CX P w) 5 (ma K (ga K "Probe") "__init__") fd ["self", "line", "mate"] (spDProbe K) ∧ L2.Binds K fd ["self", "line", "mate"] [] ∧ Mk K (ga K "Probe") (ma K (ga K "Probe") "__init__") ∧ mg "Probe" = some (.ref (ga K "Probe")) := by
  obtain ⟨fd, F⟩ := T.ik ("Probe", 58) (by decide)
  obtain ⟨g, _, m⟩ := T.gk ("Probe", 58) (by decide)
  exact ⟨fd, ok_Probe T F, FunD.bindsN F fun _ _ _ _ _ _ us hl => match us, hl with | [_, _, _], _ => rfl, m, g⟩
abbrev ocMeet : List V → Option Err := oc2 fun v u => (thenE (ckLine 1 v) (ckLine (intV v + 1) u))
abbrev flMeet : List V → List (Str × V) := fun as => match as with | [v, u] => [("line", v), ("mate", u)] | _ => []
abbrev spDMeet (K : PySem.W.Frag) : Sp := spMk K (ga K "Meet") 2 ocMeet flMeet
theorem m_Meet (T : KF P w K mg base) : ∃ fd, FnOk P w K mg base (L2.CX P w) 5 (ma K (ga K "Meet") "__init__") fd ["self", "line", "mate"] (spDMeet K) ∧ L2.Binds K fd ["self", "line", "mate"] [] ∧ Mk K (ga K "Meet") (ma K (ga K "Meet") "__init__") ∧ mg "Meet" = some (.ref (ga K "Meet")) := by
  obtain ⟨fd, F⟩ := T.ik ("Meet", 59) (by decide)
  obtain ⟨g, _, m⟩ := T.gk ("Meet", 59) (by decide)
  exact ⟨fd, ok_Meet T F, FunD.bindsN F fun _ _ _ _ _ _ us hl => match us, hl with | [_, _, _], _ => rfl, m, g⟩
abbrev ocRedo : List V → Option Err := oc1 fun v => (ckDay 1 v)
abbrev flRedo : List V → List (Str × V) := fun as => match as with | [v] => [("day", v)] | _ => []
abbrev spDRedo (K : PySem.W.Frag) : Sp := spMk K (ga K "Redo") 1 ocRedo flRedo
theorem m_Redo (T : KF P w K mg base) : ∃ fd, FnOk P w K mg base (L2.CX P w) 5 (ma K (ga K "Redo") "__init__") fd ["self", "day"] (spDRedo K) ∧ L2.Binds K fd ["self", "day"] [] ∧ Mk K (ga K "Redo") (ma K (ga K "Redo") "__init__") ∧ mg "Redo" = some (.ref (ga K "Redo")) := by
  obtain ⟨fd, F⟩ := T.ik ("Redo", 62) (by decide)
  obtain ⟨g, _, m⟩ := T.gk ("Redo", 62) (by decide)
  exact ⟨fd, ok_Redo T F, FunD.bindsN F fun _ _ _ _ _ _ us hl => match us, hl with | [_, _], _ => rfl, m, g⟩
abbrev ocShut : List V → Option Err := oc1 fun v => (ckDay 1 v)
abbrev flShut : List V → List (Str × V) := fun as => match as with | [v] => [("day", v)] | _ => []
abbrev spDShut (K : PySem.W.Frag) : Sp := spMk K (ga K "Shut") 1 ocShut flShut
theorem m_Shut (T : KF P w K mg base) : ∃ fd, FnOk P w K mg base (L2.CX P w) 5 (ma K (ga K "Shut") "__init__") fd ["self", "day"] (spDShut K) ∧ L2.Binds K fd ["self", "day"] [] ∧ Mk K (ga K "Shut") (ma K (ga K "Shut") "__init__") ∧ mg "Shut" = some (.ref (ga K "Shut")) := by
  obtain ⟨fd, F⟩ := T.ik ("Shut", 64) (by decide)
  obtain ⟨g, _, m⟩ := T.gk ("Shut", 64) (by decide)
  exact ⟨fd, ok_Shut T F, FunD.bindsN F fun _ _ _ _ _ _ us hl => match us, hl with | [_, _], _ => rfl, m, g⟩
abbrev spDRise (K : PySem.W.Frag) : Sk.SpK := Sk.spSK (spMkS K (ga K "Rise") ocLines "lines" "upto")
theorem m_Rise (T : KF P w K mg base) : Sk.FnSK P w K mg base (L2.CX P w) 5 (ma K (ga K "Rise") "__init__") "upto" (spDRise K) ∧ Mk K (ga K "Rise") (ma K (ga K "Rise") "__init__") ∧ mg "Rise" = some (.ref (ga K "Rise")) := by
  obtain ⟨fd, F⟩ := T.ik ("Rise", 60) (by decide)
  obtain ⟨g, _, m⟩ := T.gk ("Rise", 60) (by decide)
  exact ⟨ok_Rise T F, m, g⟩
abbrev spDNight (K : PySem.W.Frag) : Sk.SpK := Sk.spSK (spMkS K (ga K "Night") ocLines "lines" "upto")
theorem m_Night (T : KF P w K mg base) : Sk.FnSK P w K mg base (L2.CX P w) 5 (ma K (ga K "Night") "__init__") "upto" (spDNight K) ∧ Mk K (ga K "Night") (ma K (ga K "Night") "__init__") ∧ mg "Night" = some (.ref (ga K "Night")) := by
  obtain ⟨fd, F⟩ := T.ik ("Night", 61) (by decide)
  obtain ⟨g, _, m⟩ := T.gk ("Night", 61) (by decide)
  exact ⟨ok_Night T F, m, g⟩
abbrev spDRenew (K : PySem.W.Frag) : Sk.SpK := Sk.spSK (spMkS K (ga K "Renew") ocDays "days" "upto")
theorem m_Renew (T : KF P w K mg base) : Sk.FnSK P w K mg base (L2.CX P w) 5 (ma K (ga K "Renew") "__init__") "upto" (spDRenew K) ∧ Mk K (ga K "Renew") (ma K (ga K "Renew") "__init__") ∧ mg "Renew" = some (.ref (ga K "Renew")) := by
  obtain ⟨fd, F⟩ := T.ik ("Renew", 63) (by decide)
  obtain ⟨g, _, m⟩ := T.gk ("Renew", 63) (by decide)
  exact ⟨ok_Renew T F, m, g⟩
theorem mk_cut (T : KF P w K mg base) : Oo.Mk0 K (ga K "Cut") := by
  obtain ⟨h1, h⟩ := ba T.cut
  obtain ⟨h2, h3⟩ := ba h
  exact ⟨h1, eqO_ok h2, of_decide_eq_true h3, T.kc⟩
end
end K8
set_option Elab.async false
set_option linter.all false
set_option maxRecDepth 100000
set_option maxHeartbeats 2000000
/-! deed_of, line_deed_of, other_deed_of. -/
namespace K8
open PySem PySem.Spec PyProof.Rows L2 RV EV He EF EI LamX
/-- what the class asks of what is named -/
def Kd.oc (k : Kd) (up : V) (ns : List V) : Option Err := match k with
  | .fix => ocFix ns
  | .unfix => ocUnfix ns
  | .cut => none
  | .carry => ocCarry ns
  | .drop => ocDrop ns
  | .merge => ocMerge (ns ++ [up])
  | .end_ => ocEnd ns
  | .offer => ocOffer ns
  | .live => ocLive ns
  | .down => ocDown ns
  | .day => ocDay ns
  | .try_ => ocTry ns
  | .probe => ocProbe ns
  | .meet_ => ocMeet ns
  | .rise => ocLines up ns
  | .night => ocLines up ns
  | .redo => ocRedo ns
  | .renew => ocDays up ns
  | .shut => ocShut ns
def Shp.fit (s : Shp) (ns : List V) (up : V) : Prop := match s with
  | .pl gs => up = .non ∧ ns.length = gs.length
  | .mg => ns.length = 1
  | .many _ => True
def GoodD (k : Kd) (ns : List V) (up : V) : Prop := k.shp.fit ns up ∧ k.oc up ns = none
theorem TestR.ifE {t : TT} {σ : L2.St} {H : Hp} {b : Bool} {ta tb : TE} {F : VK} (h : TestR t σ H b) (ht : b = true → ∀ H', Same H H' → ta σ H' F) (hf : b = false → ∀ H', Same H H' → tb σ H' F) : tIf t ta tb σ H F := h H same_rfl _ fun H' s => by
  cases b with
  | true => exact if_posB rfl (ht rfl H' s)
  | false => exact if_negB rfl (hf rfl H' s)
def spDn (K : PySem.W.Frag) (ks : List Kd) : Sp := fun vs H Q _ => ∃ k T ns, k ∈ ks ∧ vs = [.str k.word, .ref T] ∧ H T = some (.tup ns) ∧ AllOdd H ns ∧ GoodD k ns .non ∧ ∀ a H', Same H H' → IsD K H' a k ns .non → Q (.ref a) H'
def lineK : List Kd := [.fix, .unfix, .carry, .drop, .end_, .offer, .live, .down, .day]
def otherK : List Kd := [.cut, .try_, .probe, .meet_, .redo, .shut]
def spDo (K : PySem.W.Frag) : Sp := fun vs H Q _ => ∃ k T ns up, vs = [.str k.word, .ref T, up] ∧ H T = some (.tup ns) ∧ AllOdd H ns ∧ (∃ d, Odd H up d) ∧ ns.length ≤ 300 ∧ GoodD k ns up ∧ ∀ a H', Same H H' → IsD K H' a k ns up → Q (.ref a) H'
section
variable {P : Program} {w : World} {K : PySem.W.Frag} {mg : Str → Option Value} {base : Heap}
theorem scLd : FnScope ["kind", "named"] ["kind", "named"] (defScope (top 44)) := ⟨rfl, rfl, rfl, by decide +kernel, rfl, by decide +kernel, by decide +kernel⟩
theorem c_Ld (T : KF P w K mg base) : Callee P w K mg base (L2.CX P w) 7 "line_deed_of" ["kind", "named"] (spDn K lineK) := by
  obtain ⟨fd, F, g⟩ := T.tops ("line_deed_of", 44) (by decide)
  refine ⟨fd, F.ok scLd (fun vs H Q E h => ?_) (fun cdv A outer s H vs Q E hr h => ?_), FunD.bindsN F fun _ _ _ _ _ _ us hl => match us, hl with | [_, _], _ => rfl, F.kp, g⟩
  · obtain ⟨k, T, ns, _, rfl, _⟩ := h
    rfl
  · obtain ⟨k, T', ns, mk, rfl, hT, ao, good, k0⟩ := h
    obtain ⟨fFix, GFix, bFix, mFix, gFix⟩ := m_Fix (w := w) T
    obtain ⟨fUnfix, GUnfix, bUnfix, mUnfix, gUnfix⟩ := m_Unfix (w := w) T
    obtain ⟨fCarry, GCarry, bCarry, mCarry, gCarry⟩ := m_Carry (w := w) T
    obtain ⟨fDrop, GDrop, bDrop, mDrop, gDrop⟩ := m_Drop (w := w) T
    obtain ⟨fEnd, GEnd, bEnd, mEnd, gEnd⟩ := m_End (w := w) T
    obtain ⟨fOffer, GOffer, bOffer, mOffer, gOffer⟩ := m_Offer (w := w) T
    obtain ⟨fLive, GLive, bLive, mLive, gLive⟩ := m_Live (w := w) T
    obtain ⟨fDown, GDown, bDown, mDown, gDown⟩ := m_Down (w := w) T
    obtain ⟨fDay, GDay, bDay, mDay, gDay⟩ := m_Day (w := w) T
    refine ⟨_, (pss_cons (ps_if (pt_cmpR op_eq (pv 0) pe_str (nomark _)) (pss_one (ps_ret (Oo.pe_newS (E := E) mFix (Oo.FnOk.r0 GFix bFix) (hr.mono (by decide)) (by rfl) gFix (passes_call (takes_of rfl rfl rfl rfl) fun _ _ _ _ h => h) (pv 1)))) pss_nil)
      (pss_cons (ps_if (pt_cmpR op_eq (pv 0) pe_str (nomark _)) (pss_one (ps_ret (Oo.pe_newS (E := E) mUnfix (Oo.FnOk.r0 GUnfix bUnfix) (hr.mono (by decide)) (by rfl) gUnfix (passes_call (takes_of rfl rfl rfl rfl) fun _ _ _ _ h => h) (pv 1)))) pss_nil)
      (pss_cons (ps_if (pt_cmpR op_eq (pv 0) pe_str (nomark _)) (pss_one (ps_ret (Oo.pe_newS (E := E) mCarry (Oo.FnOk.r0 GCarry bCarry) (hr.mono (by decide)) (by rfl) gCarry (passes_call (takes_of rfl rfl rfl rfl) fun _ _ _ _ h => h) (pv 1)))) pss_nil)
      (pss_cons (ps_if (pt_cmpR op_eq (pv 0) pe_str (nomark _)) (pss_one (ps_ret (Oo.pe_newS (E := E) mDrop (Oo.FnOk.r0 GDrop bDrop) (hr.mono (by decide)) (by rfl) gDrop (passes_call (takes_of rfl rfl rfl rfl) fun _ _ _ _ h => h) (pv 1)))) pss_nil)
      (pss_cons (ps_if (pt_cmpR op_eq (pv 0) pe_str (nomark _)) (pss_one (ps_ret (Oo.pe_newS (E := E) mEnd (Oo.FnOk.r0 GEnd bEnd) (hr.mono (by decide)) (by rfl) gEnd (passes_call (takes_of rfl rfl rfl rfl) fun _ _ _ _ h => h) (pv 1)))) pss_nil)
      (pss_cons (ps_if (pt_cmpR op_eq (pv 0) pe_str (nomark _)) (pss_one (ps_ret (Oo.pe_newS (E := E) mOffer (Oo.FnOk.r0 GOffer bOffer) (hr.mono (by decide)) (by rfl) gOffer (passes_call (takes_of rfl rfl rfl rfl) fun _ _ _ _ h => h) (pv 1)))) pss_nil)
      (pss_cons (ps_if (pt_cmpR op_eq (pv 0) pe_str (nomark _)) (pss_one (ps_ret (Oo.pe_newS (E := E) mLive (Oo.FnOk.r0 GLive bLive) (hr.mono (by decide)) (by rfl) gLive (passes_call (takes_of rfl rfl rfl rfl) fun _ _ _ _ h => h) (pv 1)))) pss_nil)
      (pss_one (ps_ret (pe_ifExp (pt_cmpR op_eq (pv 0) pe_str (nomark _)) (Oo.pe_newS (E := E) mDown (Oo.FnOk.r0 GDown bDown) (hr.mono (by decide)) (by rfl) gDown (passes_call (takes_of rfl rfl rfl rfl) fun _ _ _ _ h => h) (pv 1)) (Oo.pe_newS (E := E) mDay (Oo.FnOk.r0 GDay bDay) (hr.mono (by decide)) (by rfl) gDay (passes_call (takes_of rfl rfl rfl rfl) fun _ _ _ _ h => h) (pv 1)))))))))))), ?_⟩
    have hs : L2.start ["kind", "named"] [.str k.word, .ref T'] = [some (.str k.word), some (.ref T')] := rfl
    rw [hs]
    refine TestR.then (eq_strs (er_v (i := 0) rfl) er_c) (fun e H1 s1 => ?_) (fun e H1 s1 => ?_)
    · have ek : k.word = "fix" := of_decide_eq_true e
      have s1 := ((same_rfl : Same H H)).trans s1
      obtain rfl := Kd.inj (k' := .fix) ek
      obtain ⟨⟨_, hl⟩, ho⟩ := good
      obtain ⟨v0, rfl⟩ : ∃ v0, ns = [v0] := by
        match ns, hl with
        | [v0], _ => exact ⟨_, rfl⟩
      refine ⟨_, rfl, T', _, rfl, .inl (SqT.of (s1 _ _ hT)), mk_f (n := 1) rfl (ao.ext (Same.extN s1)) ho fun x dx H' s' e => k0 x H' (s1.trans s') ⟨dx, _, e, rfl, rfl, rfl⟩⟩
    have n1 : ¬ k.word = "fix" := of_decide_eq_false e
    have s1 := ((same_rfl : Same H H)).trans s1
    refine TestR.then (eq_strs (er_v (i := 0) rfl) er_c) (fun e H2 s2 => ?_) (fun e H2 s2 => ?_)
    · have ek : k.word = "unfix" := of_decide_eq_true e
      have s2 := (s1).trans s2
      obtain rfl := Kd.inj (k' := .unfix) ek
      obtain ⟨⟨_, hl⟩, ho⟩ := good
      obtain ⟨v0, rfl⟩ : ∃ v0, ns = [v0] := by
        match ns, hl with
        | [v0], _ => exact ⟨_, rfl⟩
      refine ⟨_, rfl, T', _, rfl, .inl (SqT.of (s2 _ _ hT)), mk_f (n := 1) rfl (ao.ext (Same.extN s2)) ho fun x dx H' s' e => k0 x H' (s2.trans s') ⟨dx, _, e, rfl, rfl, rfl⟩⟩
    have n2 : ¬ k.word = "unfix" := of_decide_eq_false e
    have s2 := (s1).trans s2
    refine TestR.then (eq_strs (er_v (i := 0) rfl) er_c) (fun e H3 s3 => ?_) (fun e H3 s3 => ?_)
    · have ek : k.word = "carry" := of_decide_eq_true e
      have s3 := (s2).trans s3
      obtain rfl := Kd.inj (k' := .carry) ek
      obtain ⟨⟨_, hl⟩, ho⟩ := good
      obtain ⟨v0, v1, rfl⟩ : ∃ v0 v1, ns = [v0, v1] := by
        match ns, hl with
        | [v0, v1], _ => exact ⟨_, _, rfl⟩
      refine ⟨_, rfl, T', _, rfl, .inl (SqT.of (s3 _ _ hT)), mk_f (n := 2) rfl (ao.ext (Same.extN s3)) ho fun x dx H' s' e => k0 x H' (s3.trans s') ⟨dx, _, e, rfl, rfl, rfl⟩⟩
    have n3 : ¬ k.word = "carry" := of_decide_eq_false e
    have s3 := (s2).trans s3
    refine TestR.then (eq_strs (er_v (i := 0) rfl) er_c) (fun e H4 s4 => ?_) (fun e H4 s4 => ?_)
    · have ek : k.word = "drop" := of_decide_eq_true e
      have s4 := (s3).trans s4
      obtain rfl := Kd.inj (k' := .drop) ek
      obtain ⟨⟨_, hl⟩, ho⟩ := good
      obtain ⟨v0, v1, rfl⟩ : ∃ v0 v1, ns = [v0, v1] := by
        match ns, hl with
        | [v0, v1], _ => exact ⟨_, _, rfl⟩
      refine ⟨_, rfl, T', _, rfl, .inl (SqT.of (s4 _ _ hT)), mk_f (n := 2) rfl (ao.ext (Same.extN s4)) ho fun x dx H' s' e => k0 x H' (s4.trans s') ⟨dx, _, e, rfl, rfl, rfl⟩⟩
    have n4 : ¬ k.word = "drop" := of_decide_eq_false e
    have s4 := (s3).trans s4
    refine TestR.then (eq_strs (er_v (i := 0) rfl) er_c) (fun e H5 s5 => ?_) (fun e H5 s5 => ?_)
    · have ek : k.word = "end" := of_decide_eq_true e
      have s5 := (s4).trans s5
      obtain rfl := Kd.inj (k' := .end_) ek
      obtain ⟨⟨_, hl⟩, ho⟩ := good
      obtain ⟨v0, rfl⟩ : ∃ v0, ns = [v0] := by
        match ns, hl with
        | [v0], _ => exact ⟨_, rfl⟩
      refine ⟨_, rfl, T', _, rfl, .inl (SqT.of (s5 _ _ hT)), mk_f (n := 1) rfl (ao.ext (Same.extN s5)) ho fun x dx H' s' e => k0 x H' (s5.trans s') ⟨dx, _, e, rfl, rfl, rfl⟩⟩
    have n5 : ¬ k.word = "end" := of_decide_eq_false e
    have s5 := (s4).trans s5
    refine TestR.then (eq_strs (er_v (i := 0) rfl) er_c) (fun e H6 s6 => ?_) (fun e H6 s6 => ?_)
    · have ek : k.word = "offer" := of_decide_eq_true e
      have s6 := (s5).trans s6
      obtain rfl := Kd.inj (k' := .offer) ek
      obtain ⟨⟨_, hl⟩, ho⟩ := good
      obtain ⟨v0, rfl⟩ : ∃ v0, ns = [v0] := by
        match ns, hl with
        | [v0], _ => exact ⟨_, rfl⟩
      refine ⟨_, rfl, T', _, rfl, .inl (SqT.of (s6 _ _ hT)), mk_f (n := 1) rfl (ao.ext (Same.extN s6)) ho fun x dx H' s' e => k0 x H' (s6.trans s') ⟨dx, _, e, rfl, rfl, rfl⟩⟩
    have n6 : ¬ k.word = "offer" := of_decide_eq_false e
    have s6 := (s5).trans s6
    refine TestR.then (eq_strs (er_v (i := 0) rfl) er_c) (fun e H7 s7 => ?_) (fun e H7 s7 => ?_)
    · have ek : k.word = "live" := of_decide_eq_true e
      have s7 := (s6).trans s7
      obtain rfl := Kd.inj (k' := .live) ek
      obtain ⟨⟨_, hl⟩, ho⟩ := good
      obtain ⟨v0, rfl⟩ : ∃ v0, ns = [v0] := by
        match ns, hl with
        | [v0], _ => exact ⟨_, rfl⟩
      refine ⟨_, rfl, T', _, rfl, .inl (SqT.of (s7 _ _ hT)), mk_f (n := 1) rfl (ao.ext (Same.extN s7)) ho fun x dx H' s' e => k0 x H' (s7.trans s') ⟨dx, _, e, rfl, rfl, rfl⟩⟩
    have n7 : ¬ k.word = "live" := of_decide_eq_false e
    have s7 := (s6).trans s7
    refine TestR.ifE (eq_strs (er_v (i := 0) rfl) er_c) (fun e H8 s8 => ?_) (fun e H8 s8 => ?_)
    · have ek : k.word = "down" := of_decide_eq_true e
      have s8 := s7.trans s8
      obtain rfl := Kd.inj (k' := .down) ek
      obtain ⟨⟨_, hl⟩, ho⟩ := good
      obtain ⟨v0, rfl⟩ : ∃ v0, ns = [v0] := by
        match ns, hl with
        | [v0], _ => exact ⟨_, rfl⟩
      refine ⟨_, rfl, T', _, rfl, .inl (SqT.of (s8 _ _ hT)), mk_f (n := 1) rfl (ao.ext (Same.extN s8)) ho fun x dx H' s' e => k0 x H' (s8.trans s') ⟨dx, _, e, rfl, rfl, rfl⟩⟩
    · have n8 : ¬ k.word = "down" := of_decide_eq_false e
      have s8 := s7.trans s8
      have ek : k.word = "day" := by
        cases k <;> first | rfl | exact absurd mk (by decide) | exact absurd rfl n1 | exact absurd rfl n2 | exact absurd rfl n3 | exact absurd rfl n4 | exact absurd rfl n5 | exact absurd rfl n6 | exact absurd rfl n7 | exact absurd rfl n8
      obtain rfl := Kd.inj (k' := .day) ek
      obtain ⟨⟨_, hl⟩, ho⟩ := good
      obtain ⟨v0, rfl⟩ : ∃ v0, ns = [v0] := by
        match ns, hl with
        | [v0], _ => exact ⟨_, rfl⟩
      refine ⟨_, rfl, T', _, rfl, .inl (SqT.of (s8 _ _ hT)), mk_f (n := 1) rfl (ao.ext (Same.extN s8)) ho fun x dx H' s' e => k0 x H' (s8.trans s') ⟨dx, _, e, rfl, rfl, rfl⟩⟩
theorem scOd : FnScope ["kind", "named"] ["kind", "named"] (defScope (top 45)) := ⟨rfl, rfl, rfl, by decide +kernel, rfl, by decide +kernel, by decide +kernel⟩
theorem c_Od (T : KF P w K mg base) : Callee P w K mg base (L2.CX P w) 7 "other_deed_of" ["kind", "named"] (spDn K otherK) := by
  obtain ⟨fd, F, g⟩ := T.tops ("other_deed_of", 45) (by decide)
  refine ⟨fd, F.ok scOd (fun vs H Q E h => ?_) (fun cdv A outer s H vs Q E hr h => ?_), FunD.bindsN F fun _ _ _ _ _ _ us hl => match us, hl with | [_, _], _ => rfl, F.kp, g⟩
  · obtain ⟨k, T, ns, _, rfl, _⟩ := h
    rfl
  · obtain ⟨k, T', ns, mk, rfl, hT, ao, good, k0⟩ := h
    have mCut := mk_cut T
    have gCut := T.gc
    obtain ⟨fTry, GTry, bTry, mTry, gTry⟩ := m_Try (w := w) T
    obtain ⟨fProbe, GProbe, bProbe, mProbe, gProbe⟩ := m_Probe (w := w) T
    obtain ⟨fMeet, GMeet, bMeet, mMeet, gMeet⟩ := m_Meet (w := w) T
    obtain ⟨fRedo, GRedo, bRedo, mRedo, gRedo⟩ := m_Redo (w := w) T
    obtain ⟨fShut, GShut, bShut, mShut, gShut⟩ := m_Shut (w := w) T
    refine ⟨_, (pss_cons (ps_if (pt_cmpR op_eq (pv 0) pe_str (nomark _)) (pss_one (ps_ret (Oo.pe_new00 mCut (by rfl) gCut))) pss_nil)
      (pss_cons (ps_if (pt_cmpR op_eq (pv 0) pe_str (nomark _)) (pss_one (ps_ret (Oo.pe_newS (E := E) mTry (Oo.FnOk.r0 GTry bTry) (hr.mono (by decide)) (by rfl) gTry (passes_call (takes_of rfl rfl rfl rfl) fun _ _ _ _ h => h) (pv 1)))) pss_nil)
      (pss_cons (ps_if (pt_cmpR op_eq (pv 0) pe_str (nomark _)) (pss_one (ps_ret (Oo.pe_newS (E := E) mProbe (Oo.FnOk.r0 GProbe bProbe) (hr.mono (by decide)) (by rfl) gProbe (passes_call (takes_of rfl rfl rfl rfl) fun _ _ _ _ h => h) (pv 1)))) pss_nil)
      (pss_cons (ps_if (pt_cmpR op_eq (pv 0) pe_str (nomark _)) (pss_one (ps_ret (Oo.pe_newS (E := E) mMeet (Oo.FnOk.r0 GMeet bMeet) (hr.mono (by decide)) (by rfl) gMeet (passes_call (takes_of rfl rfl rfl rfl) fun _ _ _ _ h => h) (pv 1)))) pss_nil)
      (pss_one (ps_ret (pe_ifExp (pt_cmpR op_eq (pv 0) pe_str (nomark _)) (Oo.pe_newS (E := E) mRedo (Oo.FnOk.r0 GRedo bRedo) (hr.mono (by decide)) (by rfl) gRedo (passes_call (takes_of rfl rfl rfl rfl) fun _ _ _ _ h => h) (pv 1)) (Oo.pe_newS (E := E) mShut (Oo.FnOk.r0 GShut bShut) (hr.mono (by decide)) (by rfl) gShut (passes_call (takes_of rfl rfl rfl rfl) fun _ _ _ _ h => h) (pv 1))))))))), ?_⟩
    have hs : L2.start ["kind", "named"] [.str k.word, .ref T'] = [some (.str k.word), some (.ref T')] := rfl
    rw [hs]
    refine TestR.then (eq_strs (er_v (i := 0) rfl) er_c) (fun e H1 s1 => ?_) (fun e H1 s1 => ?_)
    · have ek : k.word = "cut" := of_decide_eq_true e
      have s1 := ((same_rfl : Same H H)).trans s1
      obtain rfl := Kd.inj (k' := .cut) ek
      obtain ⟨⟨_, hl⟩, _⟩ := good
      obtain rfl : ns = [] := List.eq_nil_of_length_eq_zero hl
      exact fun y dx ny nd _ => k0 y _ (s1.trans (same_obj ny nd)) ⟨dx, [], upd_same, rfl, rfl, rfl⟩
    have n1 : ¬ k.word = "cut" := of_decide_eq_false e
    have s1 := ((same_rfl : Same H H)).trans s1
    refine TestR.then (eq_strs (er_v (i := 0) rfl) er_c) (fun e H2 s2 => ?_) (fun e H2 s2 => ?_)
    · have ek : k.word = "try" := of_decide_eq_true e
      have s2 := (s1).trans s2
      obtain rfl := Kd.inj (k' := .try_) ek
      obtain ⟨⟨_, hl⟩, ho⟩ := good
      obtain ⟨v0, v1, rfl⟩ : ∃ v0 v1, ns = [v0, v1] := by
        match ns, hl with
        | [v0, v1], _ => exact ⟨_, _, rfl⟩
      refine ⟨_, rfl, T', _, rfl, .inl (SqT.of (s2 _ _ hT)), mk_f (n := 2) rfl (ao.ext (Same.extN s2)) ho fun x dx H' s' e => k0 x H' (s2.trans s') ⟨dx, _, e, rfl, rfl, rfl⟩⟩
    have n2 : ¬ k.word = "try" := of_decide_eq_false e
    have s2 := (s1).trans s2
    refine TestR.then (eq_strs (er_v (i := 0) rfl) er_c) (fun e H3 s3 => ?_) (fun e H3 s3 => ?_)
    · have ek : k.word = "probe" := of_decide_eq_true e
      have s3 := (s2).trans s3
      obtain rfl := Kd.inj (k' := .probe) ek
      obtain ⟨⟨_, hl⟩, ho⟩ := good
      obtain ⟨v0, v1, rfl⟩ : ∃ v0 v1, ns = [v0, v1] := by
        match ns, hl with
        | [v0, v1], _ => exact ⟨_, _, rfl⟩
      refine ⟨_, rfl, T', _, rfl, .inl (SqT.of (s3 _ _ hT)), mk_f (n := 2) rfl (ao.ext (Same.extN s3)) ho fun x dx H' s' e => k0 x H' (s3.trans s') ⟨dx, _, e, rfl, rfl, rfl⟩⟩
    have n3 : ¬ k.word = "probe" := of_decide_eq_false e
    have s3 := (s2).trans s3
    refine TestR.then (eq_strs (er_v (i := 0) rfl) er_c) (fun e H4 s4 => ?_) (fun e H4 s4 => ?_)
    · have ek : k.word = "meet" := of_decide_eq_true e
      have s4 := (s3).trans s4
      obtain rfl := Kd.inj (k' := .meet_) ek
      obtain ⟨⟨_, hl⟩, ho⟩ := good
      obtain ⟨v0, v1, rfl⟩ : ∃ v0 v1, ns = [v0, v1] := by
        match ns, hl with
        | [v0, v1], _ => exact ⟨_, _, rfl⟩
      refine ⟨_, rfl, T', _, rfl, .inl (SqT.of (s4 _ _ hT)), mk_f (n := 2) rfl (ao.ext (Same.extN s4)) ho fun x dx H' s' e => k0 x H' (s4.trans s') ⟨dx, _, e, rfl, rfl, rfl⟩⟩
    have n4 : ¬ k.word = "meet" := of_decide_eq_false e
    have s4 := (s3).trans s4
    refine TestR.ifE (eq_strs (er_v (i := 0) rfl) er_c) (fun e H5 s5 => ?_) (fun e H5 s5 => ?_)
    · have ek : k.word = "redo" := of_decide_eq_true e
      have s5 := s4.trans s5
      obtain rfl := Kd.inj (k' := .redo) ek
      obtain ⟨⟨_, hl⟩, ho⟩ := good
      obtain ⟨v0, rfl⟩ : ∃ v0, ns = [v0] := by
        match ns, hl with
        | [v0], _ => exact ⟨_, rfl⟩
      refine ⟨_, rfl, T', _, rfl, .inl (SqT.of (s5 _ _ hT)), mk_f (n := 1) rfl (ao.ext (Same.extN s5)) ho fun x dx H' s' e => k0 x H' (s5.trans s') ⟨dx, _, e, rfl, rfl, rfl⟩⟩
    · have n5 : ¬ k.word = "redo" := of_decide_eq_false e
      have s5 := s4.trans s5
      have ek : k.word = "shut" := by
        cases k <;> first | rfl | exact absurd mk (by decide) | exact absurd rfl n1 | exact absurd rfl n2 | exact absurd rfl n3 | exact absurd rfl n4 | exact absurd rfl n5
      obtain rfl := Kd.inj (k' := .shut) ek
      obtain ⟨⟨_, hl⟩, ho⟩ := good
      obtain ⟨v0, rfl⟩ : ∃ v0, ns = [v0] := by
        match ns, hl with
        | [v0], _ => exact ⟨_, rfl⟩
      refine ⟨_, rfl, T', _, rfl, .inl (SqT.of (s5 _ _ hT)), mk_f (n := 1) rfl (ao.ext (Same.extN s5)) ho fun x dx H' s' e => k0 x H' (s5.trans s') ⟨dx, _, e, rfl, rfl, rfl⟩⟩
theorem scDo : FnScope ["kind", "named", "upto"] ["kind", "named", "upto"] (defScope (top 43)) := ⟨rfl, rfl, rfl, by decide +kernel, rfl, by decide +kernel, by decide +kernel⟩
theorem c_deed (T : KF P w K mg base) : Callee P w K mg base (L2.CX P w) 8 "deed_of" ["kind", "named", "upto"] (spDo K) := by
  obtain ⟨fd, F, g⟩ := T.tops ("deed_of", 43) (by decide)
  refine ⟨fd, F.ok scDo (fun vs H Q E h => ?_) (fun cdv A outer s H vs Q E hr h => ?_), FunD.bindsN F fun _ _ _ _ _ _ us hl => match us, hl with | [_, _, _], _ => rfl, F.kp, g⟩
  · obtain ⟨k, T, ns, up, rfl, _⟩ := h
    rfl
  · obtain ⟨k, T', ns, up, rfl, hT, ao, uo, hn, good, k0⟩ := h
    obtain ⟨fMerge, GMerge, bMerge, mMerge, gMerge⟩ := m_Merge (w := w) T
    obtain ⟨GRise, mRise, gRise⟩ := m_Rise (w := w) T
    obtain ⟨GNight, mNight, gNight⟩ := m_Night (w := w) T
    obtain ⟨GRenew, mRenew, gRenew⟩ := m_Renew (w := w) T
    obtain ⟨fL, GL, bL, kL, gL⟩ := c_Ld (w := w) T
    obtain ⟨fO, GO, bO, kO, gO⟩ := c_Od (w := w) T
    refine ⟨_, (pss_cons (ps_if (pt_cmpR op_eq (pv 0) pe_str (nomark _)) (pss_one (ps_ret (Sk.pe_newS2 (E := E) mMerge (Oo.FnOk.r0 GMerge bMerge) (hr.mono (by decide)) (by rfl) gMerge (passes_call (takes_of rfl rfl rfl rfl) fun _ _ _ _ h => h) (pv 1) (pv 2)))) pss_nil)
      (pss_cons (ps_if (pt_cmpR op_eq (pv 0) pe_str (nomark _)) (pss_one (ps_ret (Sk.pe_skSK (E := E) mRise GRise (hr.mono (by decide)) (by rfl) gRise (passes_call (takes_of rfl rfl rfl rfl) fun _ _ _ _ h => h) (pv 1) (pk_cons (pv 2) pk_nil)))) pss_nil)
      (pss_cons (ps_if (pt_cmpR op_eq (pv 0) pe_str (nomark _)) (pss_one (ps_ret (Sk.pe_skSK (E := E) mNight GNight (hr.mono (by decide)) (by rfl) gNight (passes_call (takes_of rfl rfl rfl rfl) fun _ _ _ _ h => h) (pv 1) (pk_cons (pv 2) pk_nil)))) pss_nil)
      (pss_cons (ps_if (pt_cmpR op_eq (pv 0) pe_str (nomark _)) (pss_one (ps_ret (Sk.pe_skSK (E := E) mRenew GRenew (hr.mono (by decide)) (by rfl) gRenew (passes_call (takes_of rfl rfl rfl rfl) fun _ _ _ _ h => h) (pv 1) (pk_cons (pv 2) pk_nil)))) pss_nil)
      (pss_cons (ps_if (pt_cmpR op_in_seq (pv 0) (pe_tup (pa_cons pe_str (pa_cons pe_str (pa_cons pe_str (pa_cons pe_str (pa_cons pe_str (pa_cons pe_str pa_nil))))))) rfl) (pss_one (ps_ret (pe_call (E := E) GO (hr.mono (by decide)) (by rfl) gO kO bO .nil (passes_call (takes_of rfl rfl rfl rfl) fun _ _ _ _ h => h) (pa_cons (pv 0) (pa_cons (pv 1) pa_nil))))) pss_nil)
      (pss_one (ps_ret (pe_call (E := E) GL (hr.mono (by decide)) (by rfl) gL kL bL .nil (passes_call (takes_of rfl rfl rfl rfl) fun _ _ _ _ h => h) (pa_cons (pv 0) (pa_cons (pv 1) pa_nil)))))))))), ?_⟩
    have hs : L2.start ["kind", "named", "upto"] [.str k.word, .ref T', up] = [some (.str k.word), some (.ref T'), some up] := rfl
    rw [hs]
    refine TestR.then (eq_strs (er_v (i := 0) rfl) er_c) (fun e H1 s1 => ?_) (fun e H1 s1 => ?_)
    · have ek : k.word = "merge" := of_decide_eq_true e
      have s1 := ((same_rfl : Same H H)).trans s1
      obtain rfl := Kd.inj (k' := .merge) ek
      obtain ⟨hl, ho⟩ := good
      obtain ⟨v, rfl⟩ : ∃ v, ns = [v] := by
        match ns, hl with
        | [v], _ => exact ⟨_, rfl⟩
      have ao2 : AllOdd H1 ([v] ++ [up]) := fun u hu => by
        rcases List.mem_append.mp hu with hu | hu
        · exact ao.ext (Same.extN s1) u hu
        · obtain rfl := List.mem_singleton.mp hu
          obtain ⟨d, o⟩ := uo
          exact ⟨d, o.same s1⟩
      exact ⟨_, rfl, T', _, rfl, .inl (SqT.of (s1 _ _ hT)), _, rfl, mk_f (n := 2) rfl ao2 ho fun x dx H' s' e => k0 x H' (s1.trans s') ⟨dx, _, e, v, rfl, rfl⟩⟩
    have n1 : ¬ k.word = "merge" := of_decide_eq_false e
    have s1 := ((same_rfl : Same H H)).trans s1
    refine TestR.then (eq_strs (er_v (i := 0) rfl) er_c) (fun e H2 s2 => ?_) (fun e H2 s2 => ?_)
    · have ek : k.word = "rise" := of_decide_eq_true e
      have s2 := (s1).trans s2
      obtain rfl := Kd.inj (k' := .rise) ek
      obtain ⟨_, ho⟩ := good
      obtain ⟨d, od⟩ := uo
      refine ⟨_, rfl, T', _, rfl, _, rfl, up, rfl, .inl (SqT.of (s2 _ _ hT)), mks_f (by rw [sizeLine_eq]; omega) ⟨d, od.same s2⟩ (ao.ext (Same.extN s2)) ho fun x dx t H' s' ht e => k0 x H' (s2.trans s') ⟨dx, _, e, t, ht, rfl⟩⟩
    have n2 : ¬ k.word = "rise" := of_decide_eq_false e
    have s2 := (s1).trans s2
    refine TestR.then (eq_strs (er_v (i := 0) rfl) er_c) (fun e H3 s3 => ?_) (fun e H3 s3 => ?_)
    · have ek : k.word = "night" := of_decide_eq_true e
      have s3 := (s2).trans s3
      obtain rfl := Kd.inj (k' := .night) ek
      obtain ⟨_, ho⟩ := good
      obtain ⟨d, od⟩ := uo
      refine ⟨_, rfl, T', _, rfl, _, rfl, up, rfl, .inl (SqT.of (s3 _ _ hT)), mks_f (by rw [sizeLine_eq]; omega) ⟨d, od.same s3⟩ (ao.ext (Same.extN s3)) ho fun x dx t H' s' ht e => k0 x H' (s3.trans s') ⟨dx, _, e, t, ht, rfl⟩⟩
    have n3 : ¬ k.word = "night" := of_decide_eq_false e
    have s3 := (s2).trans s3
    refine TestR.then (eq_strs (er_v (i := 0) rfl) er_c) (fun e H4 s4 => ?_) (fun e H4 s4 => ?_)
    · have ek : k.word = "renew" := of_decide_eq_true e
      have s4 := (s3).trans s4
      obtain rfl := Kd.inj (k' := .renew) ek
      obtain ⟨_, ho⟩ := good
      obtain ⟨d, od⟩ := uo
      refine ⟨_, rfl, T', _, rfl, _, rfl, up, rfl, .inl (SqT.of (s4 _ _ hT)), mks_f (by rw [sizeLine_eq]; omega) ⟨d, od.same s4⟩ (ao.ext (Same.extN s4)) ho fun x dx t H' s' ht e => k0 x H' (s4.trans s') ⟨dx, _, e, t, ht, rfl⟩⟩
    have n4 : ¬ k.word = "renew" := of_decide_eq_false e
    have s4 := (s3).trans s4
    have un : up = .non ∧ GoodD k ns .non := by
      cases k <;> first | exact absurd rfl n1 | exact absurd rfl n2 | exact absurd rfl n3 | exact absurd rfl n4 | (obtain ⟨⟨rfl, a⟩, b⟩ := good; exact ⟨rfl, ⟨rfl, a⟩, b⟩)
    obtain ⟨rfl, good⟩ := un
    refine TestR.then (in_t (i := 0) (ss := ["try", "probe", "meet", "redo", "shut", "cut"]) rfl (by decide)) (fun e H5 s5 => ?_) (fun e H5 s5 => ?_)
    · have ek := of_decide_eq_true e
      have s5 := s4.trans s5
      refine ⟨_, rfl, _, rfl, k, T', ns, ?_, rfl, s5 _ _ hT, ao.ext (Same.extN s5), good, fun a H' s' h => k0 a H' (s5.trans s') h⟩
      revert ek
      cases k <;> decide
    · have ek := of_decide_eq_false e
      have s5 := s4.trans s5
      refine ⟨_, rfl, _, rfl, k, T', ns, ?_, rfl, s5 _ _ hT, ao.ext (Same.extN s5), good, fun a H' s' h => k0 a H' (s5.trans s') h⟩
      revert ek n1 n2 n3 n4
      cases k <;> decide
end
end K8
set_option Elab.async false
set_option linter.all false
set_option maxRecDepth 100000
set_option maxHeartbeats 2000000
/-! A deed read from its words: what stands in them is good. -/
namespace K8
open PySem PySem.Spec PyProof.Rows L2 RV EV He EF EI LamX
def kdOf (x : Str) : Option Kd := Kd.all.find? fun k => decide (k.word = x)
def readW (ws : List Str) : Nat ⊕ (Kd × List V × V) := match kdOf (ws.getD 0 "") with
  | none => .inl 0
  | some k => match namedW ws k.word with
    | .inl i => .inl i
    | .inr (ns, t) => match stopW ws k.word ns t with
      | .inl i => .inl i
      | .inr (up, t') => if t' < ws.length then .inl t' else .inr (k, ns, up)
theorem kdOf_some {x : Str} {k : Kd} (h : kdOf x = some k) : k.word = x := by
  have h2 := List.find?_some h
  exact of_decide_eq_true h2
theorem Kd.mem_all (k : Kd) : k ∈ Kd.all := by cases k <;> decide
theorem kdOf_word (k : Kd) : kdOf k.word = some k := by
  cases e : kdOf k.word with
  | some k' => rw [Kd.inj (kdOf_some e)]
  | none => exact absurd (List.find?_eq_none.mp e k k.mem_all) (by simp)
theorem kdOf_none {x : Str} (h : kdOf x = none) : x ∉ kindsL := by
  intro hx
  have hk : ∃ k : Kd, k.word = x := by
    have : ∀ y ∈ kindsL, ∃ k ∈ Kd.all, k.word = y := by decide
    obtain ⟨k, _, e⟩ := this x hx
    exact ⟨k, e⟩
  obtain ⟨k, rfl⟩ := hk
  rw [kdOf_word] at h
  cases h
theorem Kd.in_kinds (k : Kd) : k.word ∈ kindsL := by cases k <;> decide
/-- rising from last to at most hi -/
def ascB (hi : Int) : Int → List Int → Prop
  | _, [] => True
  | l, i :: r => l + 1 ≤ i ∧ i ≤ hi ∧ ascB hi i r
theorem asc_app {hi : Int} : ∀ {is : List Int} {l n : Int}, ascB hi l is → is.getLastD l + 1 ≤ n → n ≤ hi → ascB hi l (is ++ [n])
  | [], l, n, _, h1, h2 => ⟨h1, h2, trivial⟩
  | i :: r, l, n, ⟨a, b, c⟩, h1, h2 => ⟨a, b, asc_app c (by
      cases r with
      | nil => exact h1
      | cons j r => exact h1) h2⟩
theorem asc_mem {hi : Int} : ∀ {is : List Int} {l : Int}, ascB hi l is → ∀ i ∈ is, l + 1 ≤ i ∧ i ≤ hi
  | [], _, _, _, h => nomatch h
  | j :: r, l, ⟨a, b, c⟩, i, h => by
    rcases List.mem_cons.mp h with rfl | h
    · exact ⟨a, b⟩
    · have := asc_mem c i h
      omega
theorem asc_len {hi : Int} : ∀ {is : List Int} {l : Int}, l ≤ hi → ascB hi l is → l + is.length ≤ hi
  | [], l, h, _ => by simpa using h
  | i :: r, l, h, ⟨a, b, c⟩ => by
    have := asc_len (l := i) b c
    rw [List.length_cons]
    omega
theorem asc_risen {c f : Str} {hi : Int} : ∀ {is : List Int} {l : Int}, ascB hi l is → risen c f hi l (is.map V.int) = none
  | [], _, _ => rfl
  | i :: r, l, ⟨a, b, h⟩ => by
    show (if inB (.int i) (l + 1) hi = true then risen c f hi (intV (.int i)) (r.map V.int) else _) = none
    have e : inB (.int i) (l + 1) hi = true := by
      show (decide (l + 1 ≤ i) && decide (i ≤ hi)) = true
      rw [decide_eq_true a, decide_eq_true b]
      rfl
    rw [if_pos e]
    exact asc_risen h
theorem getLastD_irrel {ns : List Int} (ne : ns ≠ []) (a b : Int) : ns.getLastD a = ns.getLastD b := by
  cases ns with
  | nil => exact absurd rfl ne
  | cons x r => rfl
theorem numAt_some {ws : List Str} {t : Nat} {lo hi n : Int} (h : numAt ws t lo hi = some n) : lo ≤ n ∧ n ≤ hi ∧ iS n = ws.getD t "" ∧ t < ws.length ∧ 0 ≤ n ∧ n ≤ 200 := by
  unfold numAt at h
  by_cases c : t < ws.length
  · rw [if_pos c] at h
    obtain ⟨a, b, d, e, f⟩ := numW_some h
    exact ⟨a, b, d, c, e, f⟩
  · rw [if_neg c] at h
    cases h
theorem fixAt_some {ws : List Str} {t : Nat} {x : Str} (h : fixAt ws t = some x) : isFixB x = true ∧ x = ws.getD t "" ∧ t < ws.length := by
  unfold fixAt at h
  by_cases c : t < ws.length ∧ isFixB (ws.getD t "") = true
  · rw [if_pos c] at h
    cases h
    exact ⟨c.2, rfl, c.1⟩
  · rw [if_neg c] at h
    cases h
theorem risG_ok {ws : List Str} {most : Int} : ∀ {f : Nat} {ns : List Int} {t : Nat} {ns' : List Int} {t' : Nat}, ns ≠ [] → ascB most 0 ns → risG ws most f ns t = .inr (ns', t') → ns' ≠ [] ∧ ascB most 0 ns'
  | 0, ns, t, ns', t', ne, h, e => by
    cases e
    exact ⟨ne, h⟩
  | f + 1, ns, t, ns', t', ne, h, e => by
    have e : (if t < ws.length ∧ ws.getD t "" ≠ "to" then (match numAt ws t (ns.getLastD 0 + 1) most with
      | none => .inl t
      | some n => risG ws most f (ns ++ [n]) (t + 1)) else .inr (ns, t)) = (.inr (ns', t') : Nat ⊕ (List Int × Nat)) := e
    by_cases c : t < ws.length ∧ ws.getD t "" ≠ "to"
    · rw [if_pos c] at e
      cases en : numAt ws t (ns.getLastD 0 + 1) most with
      | none => rw [en] at e; cases e
      | some n =>
        rw [en] at e
        obtain ⟨a, b, _⟩ := numAt_some en
        exact risG_ok (by simp) (asc_app h a b) e
    · rw [if_neg c] at e
      cases e
      exact ⟨ne, h⟩
theorem risW_ok {ws : List Str} {most : Int} {ns : List Int} {t : Nat} (h : risW ws most = .inr (ns, t)) : ns ≠ [] ∧ ascB most 0 ns := by
  unfold risW at h
  cases en : numAt ws 1 1 most with
  | none => rw [en] at h; cases h
  | some n =>
    rw [en] at h
    obtain ⟨a, b, _⟩ := numAt_some en
    exact risG_ok (ns := [n]) (by simp) (⟨by omega, b, trivial⟩ : ascB most 0 [n]) h
theorem fix_len {x : Str} (h : isFixB x = true) : x.length ≤ 1000 := by
  unfold isFixB at h
  simp only [Bool.and_eq_true, decide_eq_true_eq] at h
  omega
theorem ck_fix {x : Str} (h : isFixB x = true) : ckFix (.str x) = none := by
  unfold ckFix
  rw [show fixB (.str x) = isFixB x from rfl, h]
  rfl
theorem ck_num {n lo : Int} (a : lo ≤ n) (b : n ≤ 6) : ckLine lo (.int n) = none := by
  unfold ckLine
  rw [show inB (.int n) lo 6 = (decide (lo ≤ n) && decide (n ≤ 6)) from rfl, decide_eq_true a, decide_eq_true b]
  rfl
theorem ck_day {n lo : Int} (a : lo ≤ n) (b : n ≤ 200) : ckDay lo (.int n) = none := by
  unfold ckDay
  rw [show inB (.int n) lo 200 = (decide (lo ≤ n) && decide (n ≤ 200)) from rfl, decide_eq_true a, decide_eq_true b]
  rfl
theorem ck_mate {n l : Int} (a : 1 ≤ n) (b : n ≤ 6) (c : n ≠ l) : ckMate l (.int n) = none := by
  unfold ckMate
  rw [show inB (.int n) 1 6 = (decide (1 ≤ n) && decide (n ≤ 6)) from rfl, decide_eq_true a, decide_eq_true b]
  exact if_neg c
end K8
set_option Elab.async false
set_option linter.all false
set_option maxRecDepth 100000
set_option maxHeartbeats 4000000
/-! What is read is good. -/
namespace K8
open PySem PySem.Spec PyProof.Rows L2 RV EV He EF EI LamX
def Kd.most (k : Kd) : Int := if k = .renew then 200 else 6
def NsOk (k : Kd) (ns : List V) : Prop := (∀ v ∈ ns, TxV v) ∧ ns.length ≤ 300 ∧ match k.shp with
  | .pl gs => ns.length = gs.length ∧ k.oc .non ns = none
  | .mg => ∃ n : Int, ns = [.int n] ∧ 1 ≤ n ∧ n ≤ 6
  | .many _ => ∃ is : List Int, ns = is.map V.int ∧ is ≠ [] ∧ ascB k.most 0 is
theorem tx_int {n : Int} (a : 0 ≤ n) (b : n ≤ 200) : TxV (.int n) := .inr ⟨n, rfl, a, b⟩
theorem tx_fix {x : Str} (h : isFixB x = true) : TxV (.str x) := .inl ⟨x, rfl, fix_len h⟩
theorem tx1 {v : V} (h : TxV v) : ∀ u ∈ [v], TxV u := fun u hu => by
  rw [List.mem_singleton.mp hu]
  exact h
theorem tx2 {v u : V} (h : TxV v) (h2 : TxV u) : ∀ x ∈ [v, u], TxV x := fun x hx => by
  rcases List.mem_cons.mp hx with rfl | hx
  · exact h
  · rw [List.mem_singleton.mp hx]
    exact h2
theorem oneN_ok {ws : List Str} {hi : Int} {ns : List V} {t : Nat} (h : oneN ws hi = .inr (ns, t)) : ∃ n, ns = [.int n] ∧ 1 ≤ n ∧ n ≤ hi ∧ n ≤ 200 := by
  unfold oneN at h
  cases e : numAt ws 1 1 hi with
  | none => rw [e] at h; cases h
  | some n =>
    rw [e] at h
    obtain ⟨a, b, _, _, _, c⟩ := numAt_some e
    cases h
    exact ⟨n, rfl, a, b, c⟩
theorem risV_ok {ws : List Str} {hi : Int} {ns : List V} {t : Nat} (h1 : 0 ≤ hi) (h2 : hi ≤ 200) (h : risV ws hi = .inr (ns, t)) : (∀ v ∈ ns, TxV v) ∧ ns.length ≤ 300 ∧ ∃ is : List Int, ns = is.map V.int ∧ is ≠ [] ∧ ascB hi 0 is := by
  unfold risV at h
  cases e : risW ws hi with
  | inl i => rw [e] at h; cases h
  | inr q =>
    obtain ⟨is, t'⟩ := q
    rw [e] at h
    cases h
    obtain ⟨ne, a⟩ := risW_ok e
    refine ⟨fun v hv => ?_, ?_, is, rfl, ne, a⟩
    · obtain ⟨i, hi', rfl⟩ := List.mem_map.mp hv
      have := asc_mem a i hi'
      exact tx_int (by omega) (by omega)
    · have := asc_len h1 a
      rw [List.length_map]
      omega
theorem mate_ok {ws : List Str} {kind : Str} {l m : Int} (h : mateAt ws kind l = some m) (hl : 1 ≤ l) : (kind ≠ "probe" → l + 1 ≤ m) ∧ 1 ≤ m ∧ m ≤ 6 ∧ m ≠ l := by
  unfold mateAt at h
  by_cases c : kind ≠ "probe"
  · rw [if_pos c] at h
    obtain ⟨a, b, _⟩ := numAt_some h
    exact ⟨fun _ => a, by omega, b, by omega⟩
  · rw [if_neg c] at h
    by_cases d : isAt ws 2 (iS l) = true
    · rw [if_pos d] at h
      cases h
    · rw [if_neg d] at h
      obtain ⟨a, b, e, f, _⟩ := numAt_some h
      refine ⟨fun z => absurd z c, a, b, fun z => d ?_⟩
      unfold isAt
      rw [z] at e
      exact decide_eq_true ⟨f, e.symm⟩
theorem named_ok {ws : List Str} {k : Kd} {ns : List V} {t : Nat} (h : namedW ws k.word = .inr (ns, t)) : NsOk k ns := by
  cases k
  · have h : (match fixAt ws 1 with
      | none => .inl 1
      | some x => .inr ([.str x], 2)) = (.inr (ns, t) : Rd) := h
    cases e : fixAt ws 1 with
    | none => rw [e] at h; cases h
    | some x =>
      rw [e] at h
      cases h
      obtain ⟨a, _⟩ := fixAt_some e
      exact ⟨tx1 (tx_fix a), by simp, rfl, ck_fix a⟩
  · have h : (match fixAt ws 1 with
      | none => .inl 1
      | some x => .inr ([.str x], 2)) = (.inr (ns, t) : Rd) := h
    cases e : fixAt ws 1 with
    | none => rw [e] at h; cases h
    | some x =>
      rw [e] at h
      cases h
      obtain ⟨a, _⟩ := fixAt_some e
      exact ⟨tx1 (tx_fix a), by simp, rfl, ck_fix a⟩
  · have h : (.inr ([], 1) : Rd) = .inr (ns, t) := h
    cases h
    exact ⟨(fun _ z => nomatch z), by simp, rfl, rfl⟩
  · have h : (match fixAt ws 1 with
      | none => .inl 1
      | some x => match numAt ws 2 1 6 with
        | none => .inl 2
        | some n => .inr ([.str x, .int n], 3)) = (.inr (ns, t) : Rd) := h
    cases e : fixAt ws 1 with
    | none => rw [e] at h; cases h
    | some x =>
      rw [e] at h
      cases e2 : numAt ws 2 1 6 with
      | none => rw [e2] at h; cases h
      | some n =>
        rw [e2] at h
        cases h
        obtain ⟨a, _⟩ := fixAt_some e
        obtain ⟨b, c, _⟩ := numAt_some e2
        refine ⟨tx2 (tx_fix a) (tx_int (by omega) (by omega)), by simp, rfl, ?_⟩
        show thenE (ckFix (.str x)) (ckLine 1 (.int n)) = none
        rw [ck_fix a, ck_num b c]
        rfl
  · have h : (match fixAt ws 1 with
      | none => .inl 1
      | some x => match numAt ws 2 1 6 with
        | none => .inl 2
        | some n => .inr ([.str x, .int n], 3)) = (.inr (ns, t) : Rd) := h
    cases e : fixAt ws 1 with
    | none => rw [e] at h; cases h
    | some x =>
      rw [e] at h
      cases e2 : numAt ws 2 1 6 with
      | none => rw [e2] at h; cases h
      | some n =>
        rw [e2] at h
        cases h
        obtain ⟨a, _⟩ := fixAt_some e
        obtain ⟨b, c, _⟩ := numAt_some e2
        refine ⟨tx2 (tx_fix a) (tx_int (by omega) (by omega)), by simp, rfl, ?_⟩
        show thenE (ckFix (.str x)) (ckLine 1 (.int n)) = none
        rw [ck_fix a, ck_num b c]
        rfl
  · have h : oneN ws 6 = .inr (ns, t) := h
    obtain ⟨n, rfl, a, b, c⟩ := oneN_ok h
    exact ⟨tx1 (tx_int (by omega) c), by simp, n, rfl, a, b⟩
  · have h : oneN ws 6 = .inr (ns, t) := h
    obtain ⟨n, rfl, a, b, c⟩ := oneN_ok h
    exact ⟨tx1 (tx_int (by omega) c), by simp, rfl, ck_num a b⟩
  · have h : oneN ws 6 = .inr (ns, t) := h
    obtain ⟨n, rfl, a, b, c⟩ := oneN_ok h
    exact ⟨tx1 (tx_int (by omega) c), by simp, rfl, ck_num a b⟩
  · have h : oneN ws 6 = .inr (ns, t) := h
    obtain ⟨n, rfl, a, b, c⟩ := oneN_ok h
    exact ⟨tx1 (tx_int (by omega) c), by simp, rfl, ck_num a b⟩
  · have h : oneN ws 6 = .inr (ns, t) := h
    obtain ⟨n, rfl, a, b, c⟩ := oneN_ok h
    exact ⟨tx1 (tx_int (by omega) c), by simp, rfl, ck_num a b⟩
  · have h : oneN ws 6 = .inr (ns, t) := h
    obtain ⟨n, rfl, a, b, c⟩ := oneN_ok h
    exact ⟨tx1 (tx_int (by omega) c), by simp, rfl, ck_num a b⟩
  · have h : (match numAt ws 1 1 6 with
      | none => .inl 1
      | some l => match mateAt ws "try" l with
        | none => .inl 2
        | some m => .inr ([.int l, .int m], 3)) = (.inr (ns, t) : Rd) := h
    cases e : numAt ws 1 1 6 with
    | none => rw [e] at h; cases h
    | some l =>
      rw [e] at h
      have h : (match mateAt ws "try" l with
        | none => .inl 2
        | some m => .inr ([.int l, .int m], 3)) = (.inr (ns, t) : Rd) := h
      cases e2 : mateAt ws "try" l with
      | none => rw [e2] at h; cases h
      | some m =>
        rw [e2] at h
        cases h
        obtain ⟨a, b, _⟩ := numAt_some e
        obtain ⟨c0, c1, c2, c3⟩ := mate_ok e2 a
        refine ⟨tx2 (tx_int (by omega) (by omega)) (tx_int (by omega) (by omega)), by simp, rfl, ?_⟩
        show thenE (ckLine 1 (.int l)) (ckLine (l + 1) (.int m)) = none
        rw [ck_num a b, ck_num (c0 (by decide)) c2]
        rfl
  · have h : (match numAt ws 1 1 6 with
      | none => .inl 1
      | some l => match mateAt ws "probe" l with
        | none => .inl 2
        | some m => .inr ([.int l, .int m], 3)) = (.inr (ns, t) : Rd) := h
    cases e : numAt ws 1 1 6 with
    | none => rw [e] at h; cases h
    | some l =>
      rw [e] at h
      have h : (match mateAt ws "probe" l with
        | none => .inl 2
        | some m => .inr ([.int l, .int m], 3)) = (.inr (ns, t) : Rd) := h
      cases e2 : mateAt ws "probe" l with
      | none => rw [e2] at h; cases h
      | some m =>
        rw [e2] at h
        cases h
        obtain ⟨a, b, _⟩ := numAt_some e
        obtain ⟨c0, c1, c2, c3⟩ := mate_ok e2 a
        refine ⟨tx2 (tx_int (by omega) (by omega)) (tx_int (by omega) (by omega)), by simp, rfl, ?_⟩
        show thenE (ckLine 1 (.int l)) (ckMate l (.int m)) = none
        rw [ck_num a b, ck_mate c1 c2 c3]
        rfl
  · have h : (match numAt ws 1 1 6 with
      | none => .inl 1
      | some l => match mateAt ws "meet" l with
        | none => .inl 2
        | some m => .inr ([.int l, .int m], 3)) = (.inr (ns, t) : Rd) := h
    cases e : numAt ws 1 1 6 with
    | none => rw [e] at h; cases h
    | some l =>
      rw [e] at h
      have h : (match mateAt ws "meet" l with
        | none => .inl 2
        | some m => .inr ([.int l, .int m], 3)) = (.inr (ns, t) : Rd) := h
      cases e2 : mateAt ws "meet" l with
      | none => rw [e2] at h; cases h
      | some m =>
        rw [e2] at h
        cases h
        obtain ⟨a, b, _⟩ := numAt_some e
        obtain ⟨c0, c1, c2, c3⟩ := mate_ok e2 a
        refine ⟨tx2 (tx_int (by omega) (by omega)) (tx_int (by omega) (by omega)), by simp, rfl, ?_⟩
        show thenE (ckLine 1 (.int l)) (ckLine (l + 1) (.int m)) = none
        rw [ck_num a b, ck_num (c0 (by decide)) c2]
        rfl
  · have h : risV ws 6 = .inr (ns, t) := h
    exact risV_ok (by decide) (by decide) h
  · have h : risV ws 6 = .inr (ns, t) := h
    exact risV_ok (by decide) (by decide) h
  · have h : oneN ws 200 = .inr (ns, t) := h
    obtain ⟨n, rfl, a, b, c⟩ := oneN_ok h
    exact ⟨tx1 (tx_int (by omega) c), by simp, rfl, ck_day a b⟩
  · have h : risV ws 200 = .inr (ns, t) := h
    exact risV_ok (by decide) (by decide) h
  · have h : oneN ws 200 = .inr (ns, t) := h
    obtain ⟨n, rfl, a, b, c⟩ := oneN_ok h
    exact ⟨tx1 (tx_int (by omega) c), by simp, rfl, ck_day a b⟩
theorem NsOk.ris {k : Kd} {ns : List V} (h : NsOk k ns) : RisK k.word ns := by
  intro hk
  obtain ⟨_, _, h⟩ := h
  have fin : ∀ {hi : Int} {is : List Int}, hi ≤ 200 → ascB hi 0 is → ∀ i ∈ is, 0 ≤ i ∧ i ≤ 200 := fun h1 a i hi => by
    have := asc_mem a i hi
    omega
  cases k
  · exact absurd hk (by decide)
  · exact absurd hk (by decide)
  · exact absurd hk (by decide)
  · exact absurd hk (by decide)
  · exact absurd hk (by decide)
  · exact absurd hk (by decide)
  · exact absurd hk (by decide)
  · exact absurd hk (by decide)
  · exact absurd hk (by decide)
  · exact absurd hk (by decide)
  · exact absurd hk (by decide)
  · exact absurd hk (by decide)
  · exact absurd hk (by decide)
  · exact absurd hk (by decide)
  · obtain ⟨is, e, _, a⟩ := h
    exact ⟨is, e, fin (by decide) a⟩
  · obtain ⟨is, e, _, a⟩ := h
    exact ⟨is, e, fin (by decide) a⟩
  · exact absurd hk (by decide)
  · obtain ⟨is, e, _, a⟩ := h
    exact ⟨is, e, fin (by decide) a⟩
  · exact absurd hk (by decide)
theorem stop_non {ws : List Str} {k : Kd} {ns : List V} {t t' : Nat} {up : V} (h1 : k.word ≠ "merge") (h2 : k.word ∉ (["rise", "night", "renew"] : List Str)) (h : stopW ws k.word ns t = .inr (up, t')) : up = .non := by
  unfold stopW at h
  rw [if_neg (fun z => h1 z.1), if_neg (fun z => h2 z.1)] at h
  cases h
  rfl
theorem stop_many {ws : List Str} {k : Kd} {is : List Int} {t t' : Nat} {up : V} (h1 : k.word ≠ "merge") (h : stopW ws k.word (is.map V.int) t = .inr (up, t')) : up = .non ∨ ∃ i ∈ is.dropLast, up = .int i := by
  unfold stopW at h
  rw [if_neg (fun z => h1 z.1)] at h
  have mi : (is.map V.int).map intV = is := by
    rw [List.map_map]
    exact List.map_id'' (fun _ => rfl) is
  split at h
  · rw [mi] at h
    unfold pickS at h
    by_cases c : t + 1 < ws.length
    · rw [if_pos c] at h
      cases e : is.dropLast.find? (fun n => decide (iS n = ws.getD (t + 1) "")) with
      | none => rw [e] at h; cases h
      | some n =>
        rw [e] at h
        cases h
        exact .inr ⟨n, List.mem_of_find?_eq_some e, rfl⟩
    · rw [if_neg c] at h
      cases h
  · cases h
    exact .inl rfl
theorem stop_merge {ws : List Str} {ns : List V} {t t' : Nat} {up : V} (h : stopW ws "merge" ns t = .inr (up, t')) : up = .non ∨ ∃ x, up = .str x ∧ isFixB x = true := by
  unfold stopW at h
  by_cases c : ("merge" : Str) = "merge" ∧ isAt ws t "to" = true
  · rw [if_pos c] at h
    cases e : fixAt ws (t + 1) with
    | none => rw [e] at h; cases h
    | some x =>
      rw [e] at h
      cases h
      exact .inr ⟨x, rfl, (fixAt_some e).1⟩
  · rw [if_neg c, if_neg (fun z => absurd z.1 (by decide))] at h
    cases h
    exact .inl rfl
theorem many_ok {c f : Str} {hi : Int} {is : List Int} {up : V} (ne : is ≠ []) (a : ascB hi 0 is) (hu : up = .non ∨ ∃ i ∈ is.dropLast, up = .int i) : thenE (ckRise c f hi (is.map V.int)) (ckStop c f ((is.map V.int).map intV) up) = none := by
  have mi : (is.map V.int).map intV = is := by
    rw [List.map_map]
    exact List.map_id'' (fun _ => rfl) is
  have e1 : ckRise c f hi (is.map V.int) = none := by
    unfold ckRise
    rw [if_neg (fun z => ne (List.map_eq_nil_iff.mp z))]
    exact asc_risen a
  have e2 : ckStop c f is up = none := by
    unfold ckStop
    rcases hu with rfl | ⟨i, hi', rfl⟩
    · rfl
    · rw [show stopB (.int i) is = decide (i ∈ is.dropLast) from rfl, decide_eq_true hi']
      rfl
  rw [e1, mi, e2]
  rfl
theorem stop_ok {ws : List Str} {k : Kd} {ns : List V} {t t' : Nat} {up : V} (n : NsOk k ns) (h : stopW ws k.word ns t = .inr (up, t')) : GoodD k ns up ∧ (up = .non ∨ TxV up) := by
  obtain ⟨tv, ln, n⟩ := n
  have tup : ∀ {hi : Int} {is : List Int}, hi ≤ 200 → ascB hi 0 is → (up = .non ∨ ∃ i ∈ is.dropLast, up = .int i) → (up = .non ∨ TxV up) := fun h1 a hu => by
    rcases hu with rfl | ⟨i, hi', rfl⟩
    · exact .inl rfl
    · have := asc_mem a i (List.dropLast_subset _ hi')
      exact .inr (tx_int (by omega) (by omega))
  cases k
  · obtain rfl := stop_non (by decide) (by decide) h
    exact ⟨⟨⟨rfl, n.1⟩, n.2⟩, .inl rfl⟩
  · obtain rfl := stop_non (by decide) (by decide) h
    exact ⟨⟨⟨rfl, n.1⟩, n.2⟩, .inl rfl⟩
  · obtain rfl := stop_non (by decide) (by decide) h
    exact ⟨⟨⟨rfl, n.1⟩, n.2⟩, .inl rfl⟩
  · obtain rfl := stop_non (by decide) (by decide) h
    exact ⟨⟨⟨rfl, n.1⟩, n.2⟩, .inl rfl⟩
  · obtain rfl := stop_non (by decide) (by decide) h
    exact ⟨⟨⟨rfl, n.1⟩, n.2⟩, .inl rfl⟩
  · obtain ⟨n, rfl, a, b⟩ := n
    have hu := stop_merge h
    refine ⟨⟨rfl, ?_⟩, ?_⟩
    · show thenE (ckLine 1 (.int n)) (ckUp up) = none
      rw [ck_num a b]
      show ckUp up = none
      unfold ckUp
      rcases hu with rfl | ⟨x, rfl, hx⟩
      · rfl
      · rw [if_neg (fun z => nomatch z)]
        exact ck_fix hx
    · rcases hu with rfl | ⟨x, rfl, hx⟩
      · exact .inl rfl
      · exact .inr (tx_fix hx)
  · obtain rfl := stop_non (by decide) (by decide) h
    exact ⟨⟨⟨rfl, n.1⟩, n.2⟩, .inl rfl⟩
  · obtain rfl := stop_non (by decide) (by decide) h
    exact ⟨⟨⟨rfl, n.1⟩, n.2⟩, .inl rfl⟩
  · obtain rfl := stop_non (by decide) (by decide) h
    exact ⟨⟨⟨rfl, n.1⟩, n.2⟩, .inl rfl⟩
  · obtain rfl := stop_non (by decide) (by decide) h
    exact ⟨⟨⟨rfl, n.1⟩, n.2⟩, .inl rfl⟩
  · obtain rfl := stop_non (by decide) (by decide) h
    exact ⟨⟨⟨rfl, n.1⟩, n.2⟩, .inl rfl⟩
  · obtain rfl := stop_non (by decide) (by decide) h
    exact ⟨⟨⟨rfl, n.1⟩, n.2⟩, .inl rfl⟩
  · obtain rfl := stop_non (by decide) (by decide) h
    exact ⟨⟨⟨rfl, n.1⟩, n.2⟩, .inl rfl⟩
  · obtain rfl := stop_non (by decide) (by decide) h
    exact ⟨⟨⟨rfl, n.1⟩, n.2⟩, .inl rfl⟩
  · obtain ⟨is, rfl, ne, a⟩ := n
    have hu := stop_many (by decide) h
    exact ⟨⟨trivial, many_ok ne a hu⟩, tup (by decide) a hu⟩
  · obtain ⟨is, rfl, ne, a⟩ := n
    have hu := stop_many (by decide) h
    exact ⟨⟨trivial, many_ok ne a hu⟩, tup (by decide) a hu⟩
  · obtain rfl := stop_non (by decide) (by decide) h
    exact ⟨⟨⟨rfl, n.1⟩, n.2⟩, .inl rfl⟩
  · obtain ⟨is, rfl, ne, a⟩ := n
    have hu := stop_many (by decide) h
    exact ⟨⟨trivial, many_ok ne a hu⟩, tup (by decide) a hu⟩
  · obtain rfl := stop_non (by decide) (by decide) h
    exact ⟨⟨⟨rfl, n.1⟩, n.2⟩, .inl rfl⟩
theorem allOdd_tx {H : Hp} {ns : List V} (h : ∀ v ∈ ns, TxV v) : AllOdd H ns := fun v hv => by
  rcases h v hv with ⟨x, rfl, hx⟩ | ⟨i, rfl, _⟩
  · exact ⟨_, .str hx⟩
  · exact ⟨_, .int i⟩
theorem odd_tx {H : Hp} {up : V} (h : up = .non ∨ TxV up) : ∃ d, Odd H up d := by
  rcases h with rfl | ⟨x, rfl, hx⟩ | ⟨i, rfl, _⟩
  · exact ⟨_, .non⟩
  · exact ⟨_, .str hx⟩
  · exact ⟨_, .int i⟩
end K8
set_option Elab.async false
set_option linter.all false
set_option maxRecDepth 100000
set_option maxHeartbeats 2000000
/-! Texts and their words. -/
namespace K8
open PySem PySem.Spec PyProof.Rows L2 RV EV He EF EI LamX
theorem join_words (z : Str) : Txt.join " " (Txt.split z " ") = z := by
  rw [TL.join_eq]
  exact PySem.StrLaws.join_split z " "
theorem spl_some {S : List Nat} : ∀ (L : List Nat) (k : Nat) (acc : List Nat), TL.spl S k acc L ≠ []
  | [], k, acc => by unfold TL.spl; simp
  | c :: r, 0, acc => by
    unfold TL.spl
    split
    · simp
    · exact spl_some r 0 _
  | _ :: r, k + 1, acc => by
    unfold TL.spl
    exact spl_some r k acc
theorem split_some (z : Str) : Txt.split z " " ≠ [] := by
  intro h
  have h2 := TL.split_spl z " " (by decide +kernel) (TL.kind_ok (by decide +kernel))
  rw [h] at h2
  exact spl_some _ _ _ h2.symm
theorem join_len : ∀ (ws : List Str) (sep x : Str), x ∈ ws → x.length ≤ (Str.join sep ws).length
  | [], _, _, h => nomatch h
  | [y], sep, x, h => by
    rw [List.mem_singleton.mp h]
    exact Nat.le_refl _
  | y :: z :: r, sep, x, h => by
    have e : Str.join sep (y :: z :: r) = y ++ sep ++ Str.join sep (z :: r) := rfl
    rw [e, strLen_append, strLen_append]
    rcases List.mem_cons.mp h with h | h
    · rw [h]
      omega
    · have := join_len (z :: r) sep x h
      omega
theorem words_len {z x : Str} (h : x ∈ Txt.split z " ") : x.length ≤ z.length := by
  have := join_len _ " " x h
  rw [← TL.join_eq, join_words] at this
  exact this
end K8
set_option Elab.async false
set_option linter.all false
set_option maxRecDepth 100000
set_option maxHeartbeats 4000000
/-! Deed.read. -/
namespace K8
open PySem PySem.Spec PyProof.Rows L2 RV EV He EF EI LamX
abbrev aRd (K : PySem.W.Frag) : Addr := He5.wf K (gD K) "staticmethod" "read"
def spRd (K : PySem.W.Frag) : Sp := fun vs H Q E => ∃ v, vs = [v] ∧
  ((∃ x, v = .str x ∧ x.length ≤ 100000 ∧ (Txt.split x " ").length ≤ 1000 ∧ (∀ k ns up, readW (Txt.split x " ") = .inr (k, ns, up) → ∀ a H', Same H H' → IsD K H' a k ns up → Q (.ref a) H') ∧ (∀ i, readW (Txt.split x " ") = .inl i → ∀ H', Same H H' → BadE K H' E (.int 0) (.int (i : Nat)))) ∨
  (∃ t, kitB t "str" = some false ∧ (∀ H', Same H H' → TyX K H' v (.type t)) ∧ ∀ H', Same H H' → BadE K H' E (.int 0) (.int 0)))
section
variable {P : Program} {w : World} {K : PySem.W.Frag} {mg : Str → Option Value} {base : Heap}
theorem strs_vals : ∀ {xs : List Value} {ys : List Str}, strsB xs ys = true → Vals (ys.map V.str) xs
  | [], [], _ => .nil
  | .str x t :: r, y :: s, h => by
    obtain ⟨h1, h2⟩ := Bool.and_eq_true_iff.mp h
    have := of_decide_eq_true h1
    subst this
    exact .cons ⟨t, rfl⟩ (strs_vals h2)
  | [], _ :: _, h => nomatch h
  | .none :: _, [], h => nomatch h
  | .str _ _ :: _, [], h => nomatch h
theorem deed_facts (T : KF P w K mg base) : (∃ a, ClX.CVal K (gD K) (.type "type") "KINDS" (.ref a) (.ref a) ∧ ∀ H, SqT K H a (kindsL.map V.str)) ∧ Oo.SMet K (gD K) (.type "type") "read" (ma K (gD K) "read") (aRd K) ∧ ClX.CRead K (gD K) (.type "type") := by
  have h := T.ddb
  unfold deedB at h
  obtain ⟨h1, h⟩ := ba h
  obtain ⟨h2, h⟩ := ba h
  obtain ⟨h3, h⟩ := ba h
  obtain ⟨h4, h5⟩ := ba h
  obtain ⟨fd, F⟩ := T.frd
  refine ⟨?_, Oo.smet_of h2 F.kp, ⟨h4, eqO_ok h5⟩⟩
  split at h1
  · rename_i a e
    split at h1
    · rename_i d xs n s e2
      refine ⟨a, ⟨e, rfl⟩, fun H => .inr ⟨_, xs, n, e2, rfl, rfl, ?_, strs_vals h1⟩⟩
      have l := (strs_vals h1).length
      rw [List.length_map] at l
      have l2 : kindsL.length = 19 := by decide
      rw [← Array.length_toList, ← l, l2, sizeLine_eq]
      decide
    · cases h1
  · cases h1
abbrev scRd_N : List Str := ["text", "words", "kinds", "kind", "named", "upto"]
theorem scRd : FnScope scRd_N ["text"] (defScope (dSt 2)) := ⟨rfl, rfl, rfl, by decide +kernel, rfl, by decide +kernel, by decide +kernel⟩
theorem word_len {x y : Str} (h : y ∈ Txt.split x " ") (hx : x.length ≤ 1000000) : y.length ≤ 1000000 := Nat.le_trans (words_len h) hx
theorem next_kinds {ws : List Str} (h : 0 < ws.length) : nextB ws 0 kindsL = decide (ws.getD 0 "" ∈ kindsL) := by
  unfold nextB
  rw [decide_eq_true h]
  rfl
theorem ok_read (T : KF P w K mg base) {fd : FuncData} (F : FunD K "read" "Deed.read" (defArgs (dSt 2)) (defBody (dSt 2)) (defScope (dSt 2)) [] [] (aRd K) fd) : FnOk P w K mg base (L2.CX P w) 9 (aRd K) fd ["text"] (spRd K) := by
  obtain ⟨f4, F4⟩ := T.ini
  obtain ⟨ds, rds, bi⟩ := FunD.binds1 F4 (ps := ["self", "text", "line"]) 2 0 (fun z => nomatch z) rfl fun T kV doc pm an cdv ct us its h1 h2 => match us, its, h1, h2 with
      | [_, _], [_], _, _ => ⟨_, rfl, rfl⟩
  have Gi := ok_init T F4
  have M := md (w := w) T
  obtain ⟨fE, GE, bE⟩ := M.en
  obtain ⟨fN, GN, bN, kN, gN⟩ := c_named (w := w) T
  obtain ⟨fS, GS, bS, kS, gS⟩ := c_stop (w := w) T
  obtain ⟨fO, GO, bO, kO, gO⟩ := c_deed (w := w) T
  obtain ⟨⟨aK, cK, sK⟩, _, cr⟩ := deed_facts T
  refine F.ok scRd (fun vs H Q E h => ?_) (fun cdv A outer s H vs Q E hr h => ?_)
  · obtain ⟨v, rfl, _⟩ := h
    rfl
  · have hp : Passes (L2.CX P w) (cxOf (L2.CX P w) P w K mg base scRd_N "Deed.read" (defScope (dSt 2)) (aRd K) cdv A outer s H E) E := passes_call (takes_of rfl rfl rfl rfl) fun _ _ _ _ h => h
    have nd := scRd.nd
    obtain ⟨v, rfl, h⟩ := h
    refine ⟨_, pss_cons (ps_set (i := 1) nd rfl (.inl rfl) (pe_make (E := E) T.mkr Gi (hr.mono (by decide)) (by rfl) T.gw bi rds hp (pa_cons (pv 0) pa_nil)))
      (pss_cons (ps_set (i := 2) nd rfl (.inl rfl) (ClX.pe_cval (pe_glob (v := .ref (gD K)) (by rfl) T.gdd rfl)))
      (pss_cons (ps_set (i := 3) nd rfl (.inl rfl) (Sk.pe_methSL (E := E) (pv 1) T.cl T.nbt M.tk (hr.mono (by decide)) hp (pv 2)))
      (pss_cons (ps_set (i := 4) nd rfl (.inl rfl) (pe_call (E := E) GN (hr.mono (by decide)) (by rfl) gN kN bN .nil hp (pa_cons (pv 1) (pa_cons (pv 3) pa_nil))))
      (pss_cons (ps_set (i := 5) nd rfl (.inl rfl) (pe_call (E := E) GS (hr.mono (by decide)) (by rfl) gS kS bS .nil hp (pa_cons (pv 1) (pa_cons (pv 3) (pa_cons (pv 4) pa_nil)))))
      (pss_cons (ps_expr (pe_meth0 (E := E) (pv 1) T.cl (mt T ("end", 13) (by decide)) GE (hr.mono (by decide)) bE .nil hp))
      (pss_one (ps_ret (pe_call (E := E) GO (hr.mono (by decide)) (by rfl) gO kO bO .nil hp (pa_cons (pv 3) (pa_cons (pv 4) (pa_cons (pv 5) pa_nil))))))))))), ?_⟩
    have hs : L2.start scRd_N [v] = [some v, none, none, none, none, none] := rfl
    rw [hs]
    refine ⟨v, rfl, fun p dx hp0 hd ne => ⟨p, dx, v, 0, rfl, upd_same, ?_⟩⟩
    have s0 : Same H (upd (upd H dx (.own p)) p (.ins (gW K) dx [])) := fun c o e => by
      rw [upd_ne (ne_of_none e hp0), upd_ne (ne_of_none e hd)]
      exact e
    rcases h with ⟨x, rfl, hx, hws, good, bad⟩ | ⟨t, kt, ty, bad⟩
    · refine .inr ⟨x, rfl, by omega, hws, fun H1 tp s1 O => ⟨rfl, ?_⟩⟩
      have S1 : ∀ {H'}, SameW H1 H' p → Same H H' := fun {H'} q c o e => q c o (ne_of_none e hp0) (s1 c o (ne_of_none e hp0) (s0 c o e))
      have r1 : SameW H1 H1 p := fun _ _ _ e => e
      have wz : ∀ y ∈ Txt.split x " ", y.length ≤ 1000000 := fun y hy => word_len hy (by omega)
      have w0 : 0 < (Txt.split x " ").length := List.length_pos_iff.mpr (split_some x)
      refine ⟨gD K, .type "type", .ref aK, _, rfl, cr, cK, ?_⟩
      refine ⟨_, rfl, p, dx, _, rfl, O.ob, rfl, fun q nq => ⟨_, rfl, aK, _, rfl, .inl (sK _), upd_same, tak_of kindsL (O.same (same_new nq)) (by decide) ⟨fun e H2 s2 O2 => ?_, fun e H2 s2 => ?_⟩⟩⟩
      · rw [next_kinds w0] at e
        have e := of_decide_eq_true e
        cases ek : kdOf ((Txt.split x " ").getD 0 "") with
        | none => exact absurd e (kdOf_none ek)
        | some k =>
          have kw := kdOf_some ek
          rw [← kw]
          have s2 : SameW H1 H2 p := Same.tw (same_new nq) s2
          refine ⟨_, rfl, _, rfl, p, dx, tp, _, 0, k.word, rfl, O2, wz, fun ns t en TT H3 s3 O3 hT => ?_, fun i en H3 s3 => ?_⟩
          · have nk := named_ok en
            have s3 := s2.trans s3
            refine ⟨_, rfl, _, rfl, _, rfl, p, dx, tp, _, 0, t, TT, k.word, ns, rfl, O3, wz, hT, nk.2.1, nk.ris, fun up t' eu H4 s4 O4 => ?_, fun i eu H4 s4 => ?_⟩
            · obtain ⟨gd, tu⟩ := stop_ok nk eu
              have nTp : TT ≠ p := ne_of hT O3.ob (fun z => nomatch z)
              have hT4 : H4 TT = some (.tup ns) := s4 _ _ nTp hT
              have s4 := s3.trans s4
              refine ⟨_, rfl, p, dx, _, rfl, O4.ob, rfl, p, dx, tp, _, 0, t', rfl, O4, fun et H5 s5 => ?_, fun et H5 s5 => ?_⟩
              · refine ⟨_, rfl, _, rfl, _, rfl, k, TT, ns, up, rfl, s5 _ _ hT4, allOdd_tx nk.1, odd_tx tu, nk.2.1, gd, fun a H6 s6 hd6 => ?_⟩
                refine good k ns up ?_ a H6 (S1 ((s4.tr s5).tr s6)) hd6
                unfold readW
                rw [ek]
                simp only []
                rw [en]
                simp only []
                rw [eu]
                exact if_neg (by omega)
              · refine bad t' ?_ H5 (S1 (s4.tr s5))
                unfold readW
                rw [ek]
                simp only []
                rw [en]
                simp only []
                rw [eu]
                exact if_pos et
            · refine bad i ?_ H4 (S1 (s3.trans s4))
              unfold readW
              rw [ek]
              simp only []
              rw [en]
              simp only []
              rw [eu]
          · refine bad i ?_ H3 (S1 (s2.trans s3))
            unfold readW
            rw [ek]
            simp only []
            rw [en]
      · rw [next_kinds w0] at e
        have e := of_decide_eq_false e
        refine bad 0 ?_ H2 (S1 (SameW.of ((same_new nq).trans s2)))
        unfold readW
        cases ek : kdOf ((Txt.split x " ").getD 0 "") with
        | none => rfl
        | some k =>
          rw [← kdOf_some ek] at e
          exact absurd k.in_kinds e
    · exact .inl ⟨t, ty _ s0, kt, bad _ s0⟩
end
end K8
set_option Elab.async false
set_option linter.all false
set_option maxRecDepth 100000
set_option maxHeartbeats 1000000
/-! a if c else b, as a test. -/
namespace Oo
open PySem PySem.Spec PyProof.Rows L2
section
variable {X : Cx} {a b c : Expr} {tA tB tC : TT} {pos : Pos}
def tIfT (t u v : TT) : TT := fun σ H Q => t σ H fun d H1 => if d = true then u σ H1 Q else v σ H1 Q
theorem pw_ifT (hc : PT X c tC) (ha : PT X a tA) (hb : PT X b tB) : PW X (.IfExp c a b pos) (tIfT tC tA tB) := by
  refine ⟨fun wh pins s σ H Q I h => ?_⟩
  refine isTrue_IfExp (thn (hc.run pins s σ H _ I h) fun d s1 ⟨H1, I1, q1⟩ => ?_)
  cases d with
  | true => exact ha.run pins s1 σ H1 Q I1 q1
  | false => exact hb.run pins s1 σ H1 Q I1 q1
end
end Oo
set_option Elab.async false
set_option linter.all false
set_option maxRecDepth 100000
set_option maxHeartbeats 4000000
/-! The calculus of expressions that only make new things. -/
namespace K8
open PySem PySem.Spec PyProof.Rows L2 RV EV He EF EI LamX
def SOk (z : Str) : Prop := ∀ c ∈ z.cps.toList, c < 0x110000
theorem sok_ok {x : Str} (h : SOk x) : PyData.strOk x = true := by
  unfold PyData.strOk
  exact Array.all_eq_true'.mpr fun c hc => decide_eq_true (h c (Array.mem_toList_iff.mpr hc))
def opV : Option Nat → V
  | none => .non
  | some i => .int (i : Nat)
section
variable {K : PySem.W.Frag} {σ : L2.St} {H : Hp} {i : Nat} {ta tb tc te : TE} {a b : Int} {xs : List V} {ws : List Str} {x : Str} {lo hi : Int}
theorem er_lenL (ha : ER ta σ H (AtL xs)) : ER (tCB (rLenS K) (tCons ta tNil)) σ H (IsV (.int xs.length)) :=
  ha.cb fun v H1 F s ⟨r, e, hr⟩ k => by
    obtain rfl := e
    exact ⟨r, xs, rfl, .inl (SqL.of hr), k _ H1 same_rfl rfl⟩
theorem er_row {L : Addr} (hi : σ[i]? = some (some (.ref L))) (hL : H L = some (.lst xs)) : ER (tVar i) σ H (AtL xs) := er_var hi stb_l ⟨L, rfl, hL⟩
theorem er_i0 {f : Int → Int → V} (ha : ER ta σ H (IsV (.int a))) (hb : ER tb σ H (IsV (.int b))) : ER (tOp (rI0 f) ta tb) σ H (IsV (f a b)) :=
  ha.op stb_v hb fun u v H1 F s e1 e2 k => by
    obtain rfl := e1
    obtain rfl := e2
    exact ⟨a, b, rfl, rfl, k _ H1 same_rfl rfl⟩
theorem t_i0 {f : Int → Int → Bool} (ha : ER ta σ H (IsV (.int a))) (hb : ER tb σ H (IsV (.int b))) : TestR (tTest (tOp (rI0 fun i j => V.bl (f i j)) ta tb)) σ H (f a b) := (er_i0 ha hb).test
theorem t_eqI (ha : ER ta σ H (IsV (.int a))) (hb : ER tb σ H (IsV (.int b))) : TestR (tTest (tOp rEq ta tb)) σ H (decide (a = b)) :=
  ER.test (ha.op stb_v hb fun u v H1 F s e1 e2 k => by
    obtain rfl := e1
    obtain rfl := e2
    refine ⟨rfl, ?_⟩
    rw [intB]
    exact k _ H1 same_rfl rfl)
theorem er_word {j : Nat} (ha : ER ta σ H (AtL (ws.map V.str))) (hb : ER tb σ H (IsV (.int j))) (hj : j < ws.length) : ER (tOp (rIxL K) ta tb) σ H (IsV (.str (ws.getD j ""))) :=
  er_ix ha (atI_nat (j := j) (by rw [List.getElem?_map, getD_at hj]; rfl)) hb
theorem er_ixT {xs : List V} {j : Int} {y : V} (ha : ER ta σ H (AtT xs)) (hj : atI xs j = some y) (hb : ER tb σ H (IsV (.int j))) : ER (tOp (rIxT K) ta tb) σ H (IsV y) :=
  ha.op stb_t hb fun u v H1 F s ⟨a, e1, h⟩ e2 k => by
    obtain rfl := e1
    obtain rfl := e2
    exact ⟨a, xs, j, y, rfl, rfl, SqT.of h, hj, k _ H1 same_rfl rfl⟩
theorem TestR.ifT {t u w : TT} {b c d : Bool} (h : TestR t σ H b) (ht : b = true → TestR u σ H c) (hf : b = false → TestR w σ H d) : TestR (Oo.tIfT t u w) σ H (if b then c else d) := fun H1 s1 F k => h H1 s1 _ fun H2 s2 => by
  cases b with
  | true => exact if_posB rfl (ht rfl H2 (s1.trans s2) F fun H3 s3 => k H3 (s2.trans s3))
  | false => exact if_negB rfl (hf rfl H2 (s1.trans s2) F fun H3 s3 => k H3 (s2.trans s3))
end
def PrR (tl : TO) (σ : L2.St) (H : Hp) (o : Option Int) : Prop := ∀ H1, Same H H1 → ∀ F : Option Int → Hp → Prop, (∀ H2, Same H1 H2 → F o H2) → tl σ H1 F
section
variable {K : PySem.W.Frag} {σ : L2.St} {H : Hp} {i : Nat} {ta tb tc te : TE} {a b lo hi : Int} {xs : List V} {ws : List Str} {l h : Option Int} {tl th : TO}
theorem pr_no : PrR tNoPart σ H none := fun H1 s1 F k => k H1 same_rfl
theorem pr_some (ha : ER te σ H (IsV (.int a))) : PrR (tPart te) σ H (some a) := fun H1 s1 F k => ha H1 s1 _ fun v H2 s2 e => by
  obtain rfl := e
  exact ⟨a, rfl, k H2 s2⟩
theorem er_sl (ha : ER ta σ H (AtL xs)) (hl : PrR tl σ H l) (hh : PrR th σ H h) : ER (tSl (rSlL K) ta tl th) σ H (AtL (cutV xs l h)) := fun H1 s1 F k => ha H1 s1 _ fun v H2 s2 ⟨r, e, hr⟩ => by
  obtain rfl := e
  exact hl H2 (s1.trans s2) _ fun H3 s3 => hh H3 (s1.trans (s2.trans s3)) _ fun H4 s4 => ⟨r, xs, rfl, SqL.of (s4 _ _ (s3 _ _ hr)), fun p np => k _ _ (s2.trans (s3.trans (s4.trans (same_new np)))) ⟨p, rfl, upd_same⟩⟩
end
def rStrK (K : PySem.W.Frag) : List V → Hp → VK → Prop := fun xs H Q => ∃ k, Oo.rStrO (ga K (Kd.cls k)) (spSr K k) E0 xs H Q
theorem call_strK {X : Cx} (T : KF X.prog X.w X.K X.mg X.base) (hr : Room 4 X.A) : CallR X (.type "str") (rStrK X.K) := by
  intro pins s σ H xs us Q I r ⟨k, h⟩
  obtain ⟨m, fd, G, b⟩ := sr_k (w := X.w) T k
  exact Oo.call_strO (E := E0) m G (hr.mono (by decide)) b pass0 pins s σ H xs us Q I r h
def ERS (t : TA) (σ : L2.St) (H : Hp) (xs : List Str) : Prop := ∀ H1, Same H H1 → ∀ F : List V → Hp → Prop, (∀ H2, Same H1 H2 → F (xs.map V.str) H2) → t σ H1 F
theorem ers_nil {σ : L2.St} {H : Hp} : ERS tNil σ H [] := fun H1 s1 F k => k H1 same_rfl
theorem ers_cons {σ : L2.St} {H : Hp} {te : TE} {t : TA} {x : Str} {xs : List Str} (a : ER te σ H (IsV (.str x))) (b : ERS t σ H xs) : ERS (tCons te t) σ H (x :: xs) := fun H1 s1 F k => a H1 s1 _ fun v H2 s2 e => b H2 (s1.trans s2) _ fun H3 s3 => by
  obtain rfl := e
  exact k H3 (s2.trans s3)
theorem er_lstS {σ : L2.St} {H : Hp} {t : TA} {xs : List Str} (b : ERS t σ H xs) (hz : xs.length ≤ 1000) : ER (tLst t) σ H (AtL (xs.map V.str)) := fun H1 s1 F k => b H1 s1 _ fun H2 s2 => ⟨by rw [List.length_map, sizeLine_eq]; omega, fun p np => k _ _ (s2.trans (same_new np)) ⟨p, rfl, upd_same⟩⟩
end K8
set_option Elab.async false
set_option linter.all false
set_option maxRecDepth 100000
set_option maxHeartbeats 4000000
/-! Deeds as they are drawn; their texts read give them back. No Python. -/
namespace K8
open PySem PySem.Spec PyProof.Rows L2 RV EV He EF EI LamX
def xOk (x : Str) : Prop := SOk x ∧ x.length ≤ 10
def FxO (x : Str) : Prop := isFixB x = true ∧ xOk x ∧ 32 ∉ x.cps.toList
def DOk (k : Kd) (ns : List V) (up : V) : Prop := match k with
  | .fix | .unfix => (∃ x, ns = [.str x] ∧ FxO x) ∧ up = .non
  | .cut => ns = [] ∧ up = .non
  | .carry | .drop => (∃ x, ∃ l : Int, ns = [.str x, .int l] ∧ FxO x ∧ 1 ≤ l ∧ l ≤ 6) ∧ up = .non
  | .merge => (∃ l : Int, ns = [.int l] ∧ 1 ≤ l ∧ l ≤ 6) ∧ (up = .non ∨ ∃ x, up = .str x ∧ FxO x)
  | .end_ | .offer | .live | .down | .day => (∃ l : Int, ns = [.int l] ∧ 1 ≤ l ∧ l ≤ 6) ∧ up = .non
  | .try_ | .meet_ => (∃ l m : Int, ns = [.int l, .int m] ∧ 1 ≤ l ∧ l < m ∧ m ≤ 6) ∧ up = .non
  | .probe => (∃ l m : Int, ns = [.int l, .int m] ∧ 1 ≤ l ∧ l ≤ 6 ∧ 1 ≤ m ∧ m ≤ 6 ∧ m ≠ l) ∧ up = .non
  | .rise | .night | .renew => (∃ is : List Int, ns = is.map V.int ∧ is ≠ [] ∧ is.length ≤ 60 ∧ ascB k.most 0 is ∧ (up = .non ∨ ∃ i ∈ is.dropLast, up = .int i))
  | .redo | .shut => (∃ d : Int, ns = [.int d] ∧ 1 ≤ d ∧ d ≤ 200) ∧ up = .non
theorem iS_inj {i j : Int} (hi : 0 ≤ i ∧ i ≤ 200) (hj : 0 ≤ j ∧ j ≤ 200) (h : iS i = iS j) : i = j := by
  have h1 := (lenV hi).2.2
  rw [h, (lenV hj).2.2] at h1
  exact (Option.some.inj h1).symm
theorem find_only {α : Type} {p : α → Bool} {a : α} : ∀ {l : List α}, a ∈ l → p a = true → (∀ b ∈ l, p b = true → b = a) → l.find? p = some a
  | [], h, _, _ => nomatch h
  | b :: l, h, pa, u => by
    by_cases pb : p b = true
    · rw [List.find?_cons_of_pos pb, u b (by simp) pb]
    · rw [List.find?_cons_of_neg pb]
      rcases List.mem_cons.mp h with rfl | h
      · exact absurd pa pb
      · exact find_only h pa fun c hc => u c (by simp [hc])
theorem numW_iS {n lo hi : Int} (h0 : 0 ≤ n ∧ n ≤ 200) (h1 : lo ≤ n) (h2 : n ≤ hi) : numW (iS n) lo hi = some n := by
  unfold numW
  refine find_only (List.mem_map.mpr ⟨n.toNat, List.mem_range.mpr (by omega), by show ((n.toNat : Nat) : Int) = n; omega⟩) ?_ fun b hb pb => ?_
  · rw [decide_eq_true h1, decide_eq_true h2, decide_eq_true rfl]
    rfl
  · obtain ⟨m, hm, rfl⟩ := List.mem_map.mp hb
    have hm := List.mem_range.mp hm
    obtain ⟨_, pb⟩ := Bool.and_eq_true_iff.mp pb
    obtain ⟨_, pb⟩ := Bool.and_eq_true_iff.mp pb
    exact iS_inj (by show 0 ≤ ((m : Nat) : Int) ∧ ((m : Nat) : Int) ≤ 200; omega) h0 (of_decide_eq_true pb)
theorem numAt_iS {ws : List Str} {t : Nat} {n lo hi : Int} (ht : t < ws.length) (e : ws.getD t "" = iS n) (h0 : 0 ≤ n ∧ n ≤ 200) (h1 : lo ≤ n) (h2 : n ≤ hi) : numAt ws t lo hi = some n := by
  unfold numAt
  rw [if_pos ht, e]
  exact numW_iS h0 h1 h2
theorem fixAt_x {ws : List Str} {t : Nat} {x : Str} (ht : t < ws.length) (e : ws.getD t "" = x) (h : isFixB x = true) : fixAt ws t = some x := by
  unfold fixAt
  rw [e, if_pos ⟨ht, h⟩]
theorem to_all : ∀ n : Nat, n < 201 → iS (n : Int) ≠ "to" := by decide +kernel
theorem iS_to {i : Int} (h : 0 ≤ i ∧ i ≤ 200) : iS i ≠ "to" := by
  have e : ((i.toNat : Nat) : Int) = i := by omega
  rw [← e]
  exact to_all _ (by omega)
/-- the rest of what is named -/
theorem risG_all {most : Int} (hm : most ≤ 200) : ∀ (rem : List Int) (pre : List Str) (ns : List Int) (tail : List Str) (f : Nat), ns ≠ [] → rem.length < f → ascB most (ns.getLastD 0) rem → 0 ≤ ns.getLastD 0 → (∀ y, tail.head? = some y → y = "to") →
    risG (pre ++ (rem.map iS ++ tail)) most f ns pre.length = .inr (ns ++ rem, pre.length + rem.length)
  | [], pre, ns, tail, f, hn, hf, a, l0, ht => by
    match f, hf with
    | f + 1, _ =>
      unfold risG
      rw [if_neg, List.append_nil]
      · rfl
      · rintro ⟨h1, h2⟩
        match tail, ht with
        | [], _ => simp at h1
        | y :: tail, ht =>
          refine h2 ?_
          rw [List.map_nil, List.nil_append, List.getD_eq_getElem?_getD, List.getElem?_append_right (Nat.le_refl _), Nat.sub_self]
          exact ht y rfl
  | i :: rem, pre, ns, tail, f, hn, hf, a, l0, ht => by
    match f, hf with
    | f + 1, hf =>
      obtain ⟨a1, a2, a3⟩ : ns.getLastD 0 + 1 ≤ i ∧ i ≤ most ∧ ascB most i rem := a
      have e : (pre ++ ((i :: rem).map iS ++ tail)).getD pre.length "" = iS i := by
        rw [List.getD_eq_getElem?_getD, List.getElem?_append_right (Nat.le_refl _), Nat.sub_self]
        rfl
      have hl : pre.length < (pre ++ ((i :: rem).map iS ++ tail)).length := by simp
      have i0 : 0 ≤ i ∧ i ≤ 200 := ⟨by omega, by omega⟩
      unfold risG
      rw [if_pos ⟨hl, by rw [e]; exact iS_to i0⟩, numAt_iS hl e i0 a1 a2]
      have ih := risG_all hm rem (pre ++ [iS i]) (ns ++ [i]) tail f (by simp) (by simp at hf; omega) (by rw [List.getLastD_concat]; exact a3) (by rw [List.getLastD_concat]; exact i0.1) ht
      have e2 : pre ++ [iS i] ++ (rem.map iS ++ tail) = pre ++ ((i :: rem).map iS ++ tail) := by simp
      rw [e2] at ih
      have e3 : (pre ++ [iS i]).length = pre.length + 1 := by simp
      rw [e3] at ih
      show risG _ most f (ns ++ [i]) (pre.length + 1) = _
      rw [ih]
      simp
      omega
theorem risV_all {most : Int} (h1 : 1 ≤ most) (hm : most ≤ 200) {w : Str} {is : List Int} {tail : List Str} (ne : is ≠ []) (a : ascB most 0 is) (ht : ∀ y, tail.head? = some y → y = "to") : risV (w :: (is.map iS ++ tail)) most = .inr (is.map V.int, 1 + is.length) := by
  match is, ne with
  | i :: rem, _ =>
    obtain ⟨a1, a2, a3⟩ : 0 + 1 ≤ i ∧ i ≤ most ∧ ascB most i rem := a
    have i0 : 0 ≤ i ∧ i ≤ 200 := ⟨by omega, by omega⟩
    unfold risV risW
    rw [numAt_iS (n := i) (by simp) rfl i0 (by omega) a2]
    have ih := risG_all hm rem [w, iS i] [i] tail (w :: ((i :: rem).map iS ++ tail)).length (by simp) (by simp; omega) a3 i0.1 ht
    show (match risG (w :: ((i :: rem).map iS ++ tail)) most _ [i] 2 with | .inl i => Sum.inl i | .inr (ns, t) => .inr (ns.map V.int, t)) = _
    have e : ([w, iS i] ++ (rem.map iS ++ tail)) = w :: ((i :: rem).map iS ++ tail) := by simp
    rw [e] at ih
    have ih : risG (w :: ((i :: rem).map iS ++ tail)) most (w :: ((i :: rem).map iS ++ tail)).length [i] 2 = .inr ([i] ++ rem, 2 + rem.length) := ih
    rw [ih]
    simp
    omega
theorem read_of {ws : List Str} {k : Kd} {ns : List V} {up : V} {t t' : Nat} (e : ws.getD 0 "" = k.word) (h1 : namedW ws k.word = .inr (ns, t)) (h2 : stopW ws k.word ns t = .inr (up, t')) (h3 : ¬ t' < ws.length) : readW ws = .inr (k, ns, up) := by
  unfold readW
  rw [e, kdOf_word]
  simp only []
  rw [h1]
  simp only []
  rw [h2]
  exact if_neg h3
theorem stop_no {ws : List Str} {kind : Str} {ns : List V} {t : Nat} (h : ¬ t < ws.length) : stopW ws kind ns t = .inr (.non, t) := by
  have h2 : isAt ws t "to" = false := decide_eq_false fun z => h z.1
  unfold stopW
  rw [h2, if_neg (fun z => nomatch z.2), if_neg (fun z => nomatch z.2.2)]
theorem stop_pl {ws : List Str} {kind : Str} {ns : List V} {t : Nat} (h1 : kind ≠ "merge") (h2 : kind ∉ (["rise", "night", "renew"] : List Str)) : stopW ws kind ns t = .inr (.non, t) := by
  unfold stopW
  rw [if_neg (fun z => h1 z.1), if_neg (fun z => h2 z.1)]
theorem deed_pl {k : Kd} {ns : List V} : deedT k ns .non = k.word :: ns.map txtV := by
  unfold deedT
  rw [if_pos rfl, List.append_nil]
theorem map_txt (is : List Int) : (is.map V.int).map txtV = is.map iS := by rw [List.map_map]; rfl
theorem map_intV (is : List Int) : (is.map V.int).map intV = is := by rw [List.map_map]; exact List.map_id' is
theorem read_many {k : Kd} {is : List Int} {up : V} (h : k.word ∈ (["rise", "night", "renew"] : List Str)) (hm : k.word ≠ "merge") (hk : ∀ ws, namedW ws k.word = risV ws k.most) (m1 : 1 ≤ k.most) (m2 : k.most ≤ 200) (ne : is ≠ []) (a : ascB k.most 0 is)
    (hu : up = .non ∨ ∃ i ∈ is.dropLast, up = .int i) : readW (deedT k (is.map V.int) up) = .inr (k, is.map V.int, up) := by
  rcases hu with rfl | ⟨i, hi, rfl⟩
  · rw [deed_pl, map_txt]
    have r := risV_all (w := k.word) (tail := []) m1 m2 ne a (fun _ z => nomatch z)
    rw [List.append_nil] at r
    refine read_of (t := 1 + is.length) (t' := 1 + is.length) rfl (by rw [hk]; exact r) (stop_no (by simp; omega)) (by simp; omega)
  · have e : deedT k (is.map V.int) (.int i) = k.word :: (is.map iS ++ (["to", iS i] : List Str)) := by
      unfold deedT
      rw [if_neg (fun z => nomatch z), map_txt]
      rfl
    rw [e]
    have r := risV_all (w := k.word) (tail := (["to", iS i] : List Str)) m1 m2 ne a (fun _ z => (Option.some.inj z).symm)
    have l1 : 1 < is.length := by
      have := List.length_pos_of_mem hi
      rw [List.length_dropLast] at this
      omega
    have at1 : (k.word :: (is.map iS ++ (["to", iS i] : List Str))).getD (1 + is.length) "" = "to" := by
      rw [List.getD_eq_getElem?_getD, Nat.add_comm, List.getElem?_cons_succ, List.getElem?_append_right (by simp)]
      simp
    have at2 : (k.word :: (is.map iS ++ (["to", iS i] : List Str))).getD (1 + is.length + 1) "" = iS i := by
      rw [List.getD_eq_getElem?_getD, show 1 + is.length + 1 = (is.length + 1) + 1 by omega, List.getElem?_cons_succ, List.getElem?_append_right (by simp)]
      simp
    have bnd : ∀ j ∈ is, 0 ≤ j ∧ j ≤ 200 := fun j hj => by
      have := asc_mem a j hj
      omega
    refine read_of (t := 1 + is.length) (t' := 1 + is.length + 2) rfl (by rw [hk]; exact r) ?_ (by simp; omega)
    unfold stopW
    rw [if_neg (fun z => hm z.1), if_pos ⟨h, by simpa using l1, decide_eq_true ⟨by simp; omega, at1⟩⟩]
    have pk : pickS ((is.map V.int).map intV) (k.word :: (is.map iS ++ (["to", iS i] : List Str))) (1 + is.length + 1) = some i := by
      unfold pickS
      rw [if_pos (by simp; omega), map_intV, at2]
      refine find_only hi (decide_eq_true rfl) fun b hb pb => iS_inj (bnd b (List.dropLast_subset _ hb)) (bnd i (List.dropLast_subset _ hi)) (of_decide_eq_true pb)
    rw [pk]
theorem read_back {k : Kd} {ns : List V} {up : V} (h : DOk k ns up) : readW (deedT k ns up) = .inr (k, ns, up) := by
  have six : ∀ {l : Int}, 1 ≤ l → l ≤ 6 → 0 ≤ l ∧ l ≤ 200 := fun a b => ⟨by omega, by omega⟩
  cases k
  case rise =>
    obtain ⟨is, rfl, ne, _, a, hu⟩ := h
    exact read_many (by decide) (by decide) (fun ws => by unfold namedW; rw [if_neg (by decide), if_neg (by decide), if_neg (by decide), if_neg (by decide), if_neg (by decide), if_neg (by decide), if_pos (by decide)]; rfl) (by decide) (by decide) ne a hu
  case night =>
    obtain ⟨is, rfl, ne, _, a, hu⟩ := h
    exact read_many (by decide) (by decide) (fun ws => by unfold namedW; rw [if_neg (by decide), if_neg (by decide), if_neg (by decide), if_neg (by decide), if_neg (by decide), if_neg (by decide), if_pos (by decide)]; rfl) (by decide) (by decide) ne a hu
  case renew =>
    obtain ⟨is, rfl, ne, _, a, hu⟩ := h
    exact read_many (by decide) (by decide) (fun ws => by unfold namedW; rw [if_neg (by decide), if_neg (by decide), if_neg (by decide), if_neg (by decide), if_neg (by decide), if_pos (by decide)]; rfl) (by decide) (by decide) ne a hu
  case merge =>
    obtain ⟨⟨l, rfl, l1, l2⟩, hu⟩ := h
    have nw : ∀ ws : List Str, 1 < ws.length → ws.getD 1 "" = iS l → namedW ws "merge" = .inr ([.int l], 2) := fun ws hl e => by
      unfold namedW
      rw [if_neg (by decide), if_neg (by decide), if_neg (by decide), if_neg (by decide), if_neg (by decide), if_neg (by decide), if_neg (by decide)]
      unfold oneN
      rw [numAt_iS hl e (six l1 l2) l1 l2]
    rcases hu with rfl | ⟨x, rfl, fx⟩
    · rw [deed_pl]
      exact read_of (t := 2) (t' := 2) rfl (nw _ (by simp) rfl) (stop_no (by simp)) (by simp)
    · refine read_of (t := 2) (t' := 4) rfl (nw _ (by simp [deedT]) rfl) ?_ (by simp [deedT])
      unfold stopW
      rw [if_pos ⟨rfl, by rfl⟩, fixAt_x (x := x) (by simp [deedT]) rfl fx.1]
  all_goals
    obtain ⟨h, rfl⟩ := h
    rw [deed_pl]
  case fix =>
    obtain ⟨x, rfl, fx⟩ := h
    refine read_of (t := 2) (t' := 2) rfl ?_ (stop_pl (by decide) (by decide)) (by simp)
    show namedW _ "fix" = _
    unfold namedW
    rw [if_pos (by decide), fixAt_x (x := x) (by simp) rfl fx.1]
  case unfix =>
    obtain ⟨x, rfl, fx⟩ := h
    refine read_of (t := 2) (t' := 2) rfl ?_ (stop_pl (by decide) (by decide)) (by simp)
    show namedW _ "unfix" = _
    unfold namedW
    rw [if_pos (by decide), fixAt_x (x := x) (by simp) rfl fx.1]
  case cut =>
    subst h
    refine read_of (t := 1) (t' := 1) rfl ?_ (stop_pl (by decide) (by decide)) (by simp)
    rfl
  case carry =>
    obtain ⟨x, l, rfl, fx, l1, l2⟩ := h
    refine read_of (t := 3) (t' := 3) rfl ?_ (stop_pl (by decide) (by decide)) (by simp)
    show namedW _ "carry" = _
    unfold namedW
    rw [if_neg (by decide), if_pos (by decide), fixAt_x (x := x) (by simp) rfl fx.1]
    simp only []
    rw [numAt_iS (n := l) (by simp) rfl (six l1 l2) l1 l2]
  case drop =>
    obtain ⟨x, l, rfl, fx, l1, l2⟩ := h
    refine read_of (t := 3) (t' := 3) rfl ?_ (stop_pl (by decide) (by decide)) (by simp)
    show namedW _ "drop" = _
    unfold namedW
    rw [if_neg (by decide), if_pos (by decide), fixAt_x (x := x) (by simp) rfl fx.1]
    simp only []
    rw [numAt_iS (n := l) (by simp) rfl (six l1 l2) l1 l2]
  case try_ =>
    obtain ⟨l, m, rfl, l1, lm, m2⟩ := h
    refine read_of (t := 3) (t' := 3) rfl ?_ (stop_pl (by decide) (by decide)) (by simp)
    show namedW _ "try" = _
    unfold namedW
    rw [if_neg (by decide), if_neg (by decide), if_neg (by decide), if_pos (by decide), numAt_iS (n := l) (by simp) rfl (by omega) l1 (by omega)]
    simp only []
    unfold mateAt
    rw [if_pos (by decide), numAt_iS (n := m) (by simp) rfl (by omega) (by omega) m2]
  case meet_ =>
    obtain ⟨l, m, rfl, l1, lm, m2⟩ := h
    refine read_of (t := 3) (t' := 3) rfl ?_ (stop_pl (by decide) (by decide)) (by simp)
    show namedW _ "meet" = _
    unfold namedW
    rw [if_neg (by decide), if_neg (by decide), if_neg (by decide), if_pos (by decide), numAt_iS (n := l) (by simp) rfl (by omega) l1 (by omega)]
    simp only []
    unfold mateAt
    rw [if_pos (by decide), numAt_iS (n := m) (by simp) rfl (by omega) (by omega) m2]
  case probe =>
    obtain ⟨l, m, rfl, l1, l2, m1, m2, ml⟩ := h
    refine read_of (t := 3) (t' := 3) rfl ?_ (stop_pl (by decide) (by decide)) (by simp)
    show namedW _ "probe" = _
    unfold namedW
    rw [if_neg (by decide), if_neg (by decide), if_neg (by decide), if_pos (by decide), numAt_iS (n := l) (by simp) rfl (by omega) l1 (by omega)]
    simp only []
    unfold mateAt
    have na : isAt ("probe" :: [V.int l, V.int m].map txtV) 2 (iS l) = false := decide_eq_false fun z => ml (iS_inj (by omega) (by omega) z.2)
    show (match (if ("probe" : Str) ≠ "probe" then _ else if isAt ("probe" :: [V.int l, V.int m].map txtV) 2 (iS l) = true then none else numAt _ 2 1 6) with | none => Sum.inl 2 | some m => Sum.inr ([V.int l, V.int m], 3)) = _
    rw [if_neg (by decide), na, if_neg (fun z => nomatch z), numAt_iS (n := m) (by simp) rfl (by omega) (by omega) m2]
  case redo =>
    obtain ⟨l, rfl, l1, l2⟩ := h
    refine read_of (t := 2) (t' := 2) rfl ?_ (stop_pl (by decide) (by decide)) (by simp)
    show namedW _ "redo" = _
    unfold namedW oneN
    rw [if_neg (by decide), if_neg (by decide), if_neg (by decide), if_neg (by decide), if_pos (by decide), numAt_iS (n := l) (by simp) rfl (by omega) l1 l2]
  case shut =>
    obtain ⟨l, rfl, l1, l2⟩ := h
    refine read_of (t := 2) (t' := 2) rfl ?_ (stop_pl (by decide) (by decide)) (by simp)
    show namedW _ "shut" = _
    unfold namedW oneN
    rw [if_neg (by decide), if_neg (by decide), if_neg (by decide), if_neg (by decide), if_pos (by decide), numAt_iS (n := l) (by simp) rfl (by omega) l1 l2]
  all_goals
    obtain ⟨l, rfl, l1, l2⟩ := h
    refine read_of (t := 2) (t' := 2) rfl ?_ (stop_pl (by decide) (by decide)) (by simp)
    show namedW _ _ = _
    unfold namedW oneN
    rw [if_neg (by decide), if_neg (by decide), if_neg (by decide), if_neg (by decide), if_neg (by decide), if_neg (by decide), if_neg (by decide), numAt_iS (n := l) (by simp) rfl (six l1 l2) l1 l2]
end K8
set_option Elab.async false
set_option linter.all false
set_option maxRecDepth 100000
set_option maxHeartbeats 4000000
/-! What drawn deeds are good for. No Python. -/
namespace K8
open PySem PySem.Spec PyProof.Rows L2 RV EV He EF EI LamX
def TxW (v : V) : Prop := (∃ x : Str, v = .str x ∧ FxO x) ∨ ∃ i : Int, v = .int i ∧ 0 ≤ i ∧ i ≤ 200
theorem txw1 {v : V} (h : TxW v) : ∀ u ∈ [v], TxW u := fun u hu => by rw [List.mem_singleton.mp hu]; exact h
theorem txw2 {v u : V} (h : TxW v) (h2 : TxW u) : ∀ x ∈ [v, u], TxW x := fun x hx => by
  rcases List.mem_cons.mp hx with rfl | hx
  · exact h
  · rw [List.mem_singleton.mp hx]; exact h2
theorem txI {i : Int} (h1 : 0 ≤ i) (h2 : i ≤ 200) : TxW (.int i) := .inr ⟨i, rfl, h1, h2⟩
theorem txF {x : Str} (h : FxO x) : TxW (.str x) := .inl ⟨x, rfl, h⟩
theorem dok_tx {k : Kd} {ns : List V} {up : V} (h : DOk k ns up) : (∀ v ∈ ns, TxW v) ∧ ns.length ≤ 60 ∧ (up = .non ∨ TxW up) := by
  have many : ∀ {most : Int} {is : List Int}, most ≤ 200 → ascB most 0 is → is.length ≤ 60 → (up = .non ∨ ∃ i ∈ is.dropLast, up = .int i) → (∀ v ∈ is.map V.int, TxW v) ∧ (is.map V.int).length ≤ 60 ∧ (up = .non ∨ TxW up) := fun {most is} hm a hl hu => by
    have bnd : ∀ j ∈ is, 0 ≤ j ∧ j ≤ 200 := fun j hj => by
      have := asc_mem a j hj
      omega
    refine ⟨fun v hv => ?_, by rw [List.length_map]; exact hl, ?_⟩
    · obtain ⟨i, hi, rfl⟩ := List.mem_map.mp hv
      exact txI (bnd i hi).1 (bnd i hi).2
    · rcases hu with rfl | ⟨i, hi, rfl⟩
      · exact .inl rfl
      · have := bnd i (List.dropLast_subset _ hi)
        exact .inr (txI this.1 this.2)
  cases k
  case rise => obtain ⟨is, rfl, _, hl, a, hu⟩ := h; exact many (by decide) a hl hu
  case night => obtain ⟨is, rfl, _, hl, a, hu⟩ := h; exact many (by decide) a hl hu
  case renew => obtain ⟨is, rfl, _, hl, a, hu⟩ := h; exact many (by decide) a hl hu
  case merge =>
    obtain ⟨⟨l, rfl, l1, l2⟩, hu⟩ := h
    refine ⟨txw1 (txI (by omega) (by omega)), by simp, ?_⟩
    rcases hu with rfl | ⟨x, rfl, fx⟩
    · exact .inl rfl
    · exact .inr (txF fx)
  all_goals obtain ⟨h, rfl⟩ := h
  case fix => obtain ⟨x, rfl, fx⟩ := h; exact ⟨txw1 (txF fx), by simp, .inl rfl⟩
  case unfix => obtain ⟨x, rfl, fx⟩ := h; exact ⟨txw1 (txF fx), by simp, .inl rfl⟩
  case cut => subst h; exact ⟨(fun _ z => nomatch z), by simp, .inl rfl⟩
  case carry => obtain ⟨x, l, rfl, fx, l1, l2⟩ := h; exact ⟨txw2 (txF fx) (txI (by omega) (by omega)), by simp, .inl rfl⟩
  case drop => obtain ⟨x, l, rfl, fx, l1, l2⟩ := h; exact ⟨txw2 (txF fx) (txI (by omega) (by omega)), by simp, .inl rfl⟩
  case try_ => obtain ⟨l, m, rfl, l1, l2, l3⟩ := h; exact ⟨txw2 (txI (by omega) (by omega)) (txI (by omega) (by omega)), by simp, .inl rfl⟩
  case meet_ => obtain ⟨l, m, rfl, l1, l2, l3⟩ := h; exact ⟨txw2 (txI (by omega) (by omega)) (txI (by omega) (by omega)), by simp, .inl rfl⟩
  case probe => obtain ⟨l, m, rfl, l1, l2, l3, l4, l5⟩ := h; exact ⟨txw2 (txI (by omega) (by omega)) (txI (by omega) (by omega)), by simp, .inl rfl⟩
  all_goals
    obtain ⟨l, rfl, l1, l2⟩ := h
    exact ⟨txw1 (txI (by omega) (by omega)), by simp, .inl rfl⟩
theorem TxW.tx {v : V} (h : TxW v) : TxV v := by
  rcases h with ⟨x, rfl, h⟩ | ⟨i, rfl, h⟩
  · exact .inl ⟨x, rfl, Nat.le_trans h.2.1.2 (by decide)⟩
  · exact .inr ⟨i, rfl, h⟩
def wOk (x : Str) : Prop := xOk x ∧ 32 ∉ x.cps.toList
def wOkB (x : Str) : Bool := (x.cps.toList.all fun c => decide (c < 0x110000 ∧ c ≠ 32)) && decide (x.length ≤ 10)
theorem wOk_of {x : Str} (h : wOkB x = true) : wOk x := by
  obtain ⟨a, b⟩ := Bool.and_eq_true_iff.mp h
  exact ⟨⟨fun c hc => (of_decide_eq_true (List.all_eq_true.mp a c hc)).1, of_decide_eq_true b⟩, fun hc => (of_decide_eq_true (List.all_eq_true.mp a 32 hc)).2 rfl⟩
theorem nums_w : ∀ n : Nat, n < 201 → wOkB (iS (n : Int)) = true := by decide +kernel
theorem TxW.w {v : V} (h : TxW v) : wOk (txtV v) := by
  rcases h with ⟨x, rfl, h⟩ | ⟨i, rfl, h0, h1⟩
  · exact ⟨h.2.1, h.2.2⟩
  · have e : ((i.toNat : Nat) : Int) = i := by omega
    show wOk (iS i)
    rw [← e]
    exact wOk_of (nums_w _ (by omega))
theorem Kd.w (k : Kd) : wOk k.word := wOk_of (by cases k <;> decide)
theorem deed_words {k : Kd} {ns : List V} {up : V} (h : DOk k ns up) : (∀ x ∈ deedT k ns up, wOk x) ∧ (deedT k ns up).length ≤ 63 ∧ deedT k ns up ≠ [] := by
  obtain ⟨h1, h2, h3⟩ := dok_tx h
  refine ⟨fun x hx => ?_, ?_, fun z => by unfold deedT at z; cases z⟩
  · unfold deedT at hx
    rcases List.mem_cons.mp hx with rfl | hx
    · exact k.w
    · rcases List.mem_append.mp hx with hx | hx
      · obtain ⟨v, hv, rfl⟩ := List.mem_map.mp hx
        exact (h1 v hv).w
      · rcases h3 with rfl | h3
        · rw [if_pos rfl] at hx
          cases hx
        · have un : up ≠ .non := fun z => by
            rcases h3 with ⟨_, e, _⟩ | ⟨_, e, _⟩ <;> rw [z] at e <;> cases e
          rw [if_neg un] at hx
          rcases List.mem_cons.mp hx with rfl | hx
          · exact wOk_of (by decide)
          · rw [List.mem_singleton.mp hx]
            exact h3.w
  · unfold deedT
    split
    · simp; omega
    · simp; omega
/-- the text of a deed -/
def dTx (k : Kd) (ns : List V) (up : V) : Str := Txt.join " " (deedT k ns up)
theorem split_deed {k : Kd} {ns : List V} {up : V} (h : DOk k ns up) : Txt.split (dTx k ns up) " " = deedT k ns up := by
  obtain ⟨h1, _, ne⟩ := deed_words h
  exact TL.split_join (y := " ") (s := 32) (S := []) rfl (by decide +kernel) ne fun p hp => (h1 p hp).2
theorem dTx_inj {k k' : Kd} {ns ns' : List V} {up up' : V} (h : DOk k ns up) (h' : DOk k' ns' up') (e : dTx k ns up = dTx k' ns' up') : k = k' ∧ ns = ns' ∧ up = up' := by
  have e2 := split_deed h
  rw [e, split_deed h'] at e2
  have e3 := read_back h
  rw [← e2, read_back h'] at e3
  cases Sum.inr.inj e3
  exact ⟨rfl, rfl, rfl⟩
theorem good_of {k : Kd} {ns : List V} {up : V} (h : DOk k ns up) : GoodD k ns up := by
  have r := read_back h
  unfold readW at r
  cases ek : kdOf ((deedT k ns up).getD 0 "") with
  | none => rw [ek] at r; cases r
  | some k' =>
    rw [ek] at r
    simp only [] at r
    cases en : namedW (deedT k ns up) k'.word with
    | inl i => rw [en] at r; cases r
    | inr q =>
      obtain ⟨ns', t⟩ := q
      rw [en] at r
      simp only [] at r
      cases es : stopW (deedT k ns up) k'.word ns' t with
      | inl i => rw [es] at r; cases r
      | inr q =>
        obtain ⟨up', t'⟩ := q
        rw [es] at r
        simp only [] at r
        split at r
        · cases r
        · cases Sum.inr.inj r
          exact (stop_ok (named_ok en) es).1
end K8
set_option Elab.async false
set_option linter.all false
set_option maxRecDepth 100000
set_option maxHeartbeats 4000000
/-! Deeds: their class, ==. -/
namespace K8
open PySem PySem.Spec PyProof.Rows L2 RV EV He EF EI LamX
theorem call_ex {ι : Type} {X : Cx} {f : Value} {r : ι → List V → Hp → VK → Prop} (h : ∀ i, CallR X f (r i)) : CallR X f (fun xs H Q => ∃ i, r i xs H Q) := fun pins s σ H xs us Q I r' ⟨i, h'⟩ => h i pins s σ H xs us Q I r' h'
theorem op_ex {ι : Type} {X : Cx} {f : Value → Value → Sem Value} {r : ι → R2} (h : ∀ i, OpR X f (r i)) : OpR X f (fun x y H Q => ∃ i, r i x y H Q) := fun pins s σ H x y u v Q I rx ry ⟨i, h'⟩ => h i pins s σ H x y u v Q I rx ry h'
theorem pe_ex {ι : Type} {X : Cx} {e : Expr} {t : ι → TE} (h : ∀ i, PE X e (t i)) : PE X e (fun σ H Q => ∃ i, t i σ H Q) := ⟨fun pins s σ H Q I ⟨i, h'⟩ => (h i).run pins s σ H Q I h'⟩
def Kd.ups (k : Kd) : List Str := match k with
  | .fix | .unfix | .cut => ["Deed", "OnMain"]
  | .carry | .drop | .end_ | .offer | .live | .down | .day => ["Deed", "OnLine"]
  | .merge => ["Deed", "OnLine", "OfMany"]
  | .try_ | .probe | .meet_ => ["Deed", "OfTwo"]
  | .rise | .night => ["Deed", "OfMany"]
  | .redo | .shut => ["Deed", "OfDay"]
  | .renew => ["Deed", "OfMany", "OfDay"]
theorem Kd.mids (k : Kd) : (k.cls, k.ups) ∈ midN := by cases k <;> decide
section
variable {P : Program} {w : World} {K : PySem.W.Frag} {mg : Str → Option Value} {base : Heap}
theorem kd_ty (T : KF P w K mg base) {k : Kd} {H : Hp} {a : Addr} {ns : List V} {up : V} (h : IsD K H a k ns up) : TyX K H (.ref a) (.ref (ga K k.cls)) := by
  obtain ⟨dx, fs, ha, _⟩ := h
  obtain ⟨_, z⟩ := ba T.nb8
  obtain ⟨_, z⟩ := ba z
  obtain ⟨_, z⟩ := ba z
  obtain ⟨_, z⟩ := ba z
  obtain ⟨zo, _⟩ := ba z
  obtain ⟨h1, h⟩ := ba (List.all_eq_true.mp zo _ k.kn)
  obtain ⟨h2, _⟩ := ba h
  obtain ⟨o1, o2⟩ := ba T.ob
  exact .base (.ins ha (kcls T k) (eqO_ok h1) (eqO_ok o1) (of_decide_eq_true o2) (of_decide_eq_true h2))
theorem kd_ne (T : KF P w K mg base) (k : Kd) : PySem.W.findIn K (.ref (ga K k.cls)) "__ne__" = some (some (.builtin "object.__ne__")) ∧ PySem.W.mroIn K (ga K k.cls) (.type "object") = some true := by
  obtain ⟨_, z⟩ := ba T.nb8
  obtain ⟨_, z⟩ := ba z
  obtain ⟨_, z⟩ := ba z
  obtain ⟨_, z⟩ := ba z
  obtain ⟨zo, _⟩ := ba z
  obtain ⟨_, h⟩ := ba (List.all_eq_true.mp zo _ k.kn)
  obtain ⟨h2, h3⟩ := ba h
  exact ⟨eqO_ok h3, of_decide_eq_true h2⟩
theorem kd_kit (T : KF P w K mg base) (k : Kd) {d : Str} (hd : d ∈ midL) : PySem.W.kitOne K (.ref (ga K k.cls)) (.ref (ga K d)) = some (k.ups.contains d) := by
  obtain ⟨_, z⟩ := ba T.nb8
  obtain ⟨zk, _⟩ := ba z
  exact of_decide_eq_true (List.all_eq_true.mp (List.all_eq_true.mp zk _ k.mids) d hd)
theorem kd_deed (T : KF P w K mg base) (k : Kd) : PySem.W.kitOne K (.ref (ga K k.cls)) (.ref (gD K)) = some true := by
  have h := kd_kit T k (d := "Deed") (by decide)
  have e : k.ups.contains "Deed" = true := by cases k <;> decide
  rw [e] at h
  exact h
theorem bes_kit (T : KF P w K mg base) {t : String} (ht : t ∈ besT) : PySem.W.kitOne K (.type t) (.ref (ga K "Deed")) = some false := by
  obtain ⟨_, z⟩ := ba T.nb8
  obtain ⟨_, z⟩ := ba z
  obtain ⟨zk, _⟩ := ba z
  exact of_decide_eq_true (List.all_eq_true.mp zk t ht)
theorem kd_first (T : KF P w K mg base) (k : Kd) : (∀ k' : Kd, PySem.W.notFirst K (ga K k.cls) (.ref (ga K k'.cls)) = true) ∧ ∀ t ∈ besT, PySem.W.notFirst K (ga K k.cls) (.type t) = true := by
  obtain ⟨_, z⟩ := ba T.nb8
  obtain ⟨_, z⟩ := ba z
  obtain ⟨_, z⟩ := ba z
  obtain ⟨zc, _⟩ := ba z
  obtain ⟨h1, h2⟩ := ba (List.all_eq_true.mp zc _ k.kn)
  refine ⟨fun k' => List.all_eq_true.mp h1 _ k'.kn, fun t ht => ?_⟩
  have := of_decide_eq_true (List.all_eq_true.mp h2 t ht)
  unfold PySem.W.notFirst
  rw [this]
  rw [beq_self_eq_true, Bool.or_true]
/-- a good deed at a -/
structure GD (K : PySem.W.Frag) (H : Hp) (a : Addr) (k : Kd) (ns : List V) (up : V) : Prop where
  at_ : IsD K H a k ns up
  ok : DOk k ns up
theorem GD.same {H H' : Hp} {a : Addr} {k : Kd} {ns : List V} {up : V} (h : GD K H a k ns up) (s : Same H H') : GD K H' a k ns up := ⟨h.at_.same s, h.ok⟩
def IsG (K : PySem.W.Frag) (k : Kd) (ns : List V) (up : V) : V → Hp → Prop := fun v H => ∃ a, v = .ref a ∧ GD K H a k ns up
theorem stb_g {k : Kd} {ns : List V} {up : V} : Stb (IsG K k ns up) := fun _ _ _ s ⟨a, e, h⟩ => ⟨a, e, h.same s⟩
theorem er_strK {σ : L2.St} {H : Hp} {te : TE} {k : Kd} {ns : List V} {up : V} (h : ER te σ H (IsG K k ns up)) : ER (tCB (rStrK K) (tCons te tNil)) σ H (IsV (.str (dTx k ns up))) := h.cb fun v H1 F s ⟨a, e, hd⟩ q => by
  obtain rfl := e
  obtain ⟨h1, h2, h3⟩ := dok_tx hd.ok
  obtain ⟨dx, fs, ha, hs⟩ := hd.at_
  exact ⟨k, a, dx, fs, rfl, ha, a, ns, up, rfl, ⟨dx, fs, ha, hs⟩, by omega, fun v hv => (h1 v hv).tx, h3.imp id TxW.tx, fun H' s' => ⟨_, rfl, q _ H' s' rfl⟩⟩
/-! == -/
def spEq (K : PySem.W.Frag) (k : Kd) : Sp := fun vs H Q _ => ∃ a v ns up, vs = [.ref a, v] ∧ GD K H a k ns up ∧ ((∃ k' ns' up', IsG K k' ns' up' v H ∧ ∀ H', Same H H' → Q (.bl (decide (dTx k ns up = dTx k' ns' up'))) H') ∨ (∃ t ∈ besT, TyX K H v (.type t) ∧ ∀ H', Same H H' → Q (.bl false) H'))
theorem scEqK : FnScope ["self", "other"] ["self", "other"] (defScope (inClass (top 37) 4)) := ⟨rfl, rfl, rfl, by decide +kernel, rfl, by decide +kernel, by decide +kernel⟩
theorem Kd.inEq (k : Kd) : ((k.cls, "Deed", 37, 4) : Str × Str × Nat × Nat) ∈ eqN := by cases k <;> decide
theorem eq_k (T : KF P w K mg base) (k : Kd) : Meth K (ga K k.cls) "__eq__" (ma K (ga K k.cls) "__eq__") ∧ ∃ fd, FnOk P w K mg base CX0 5 (ma K (ga K k.cls) "__eq__") fd ["self", "other"] (spEq K k) ∧ L2.Binds K fd ["self", "other"] [] := by
  obtain ⟨m, fd, F⟩ := T.eqm _ k.inEq
  refine ⟨m, fd, F.ok (N := ["self", "other"]) scEqK (fun vs H Q E h => ?_) (fun cdv A outer s H vs Q E hr h => ?_), FunD.bindsN F fun _ _ _ _ _ _ us hl => match us, hl with | [_, _], _ => rfl⟩
  · obtain ⟨a, v, ns, up, rfl, _⟩ := h
    rfl
  · obtain ⟨a, v, ns, up, rfl, hd, h⟩ := h
    refine ⟨_, PSs.nox (pss_one (ps_ret (pe_and (pe_callB call_isi (by rfl) (T.fr "isinstance" (by decide)) PyProof.Rows.boot_isinstance (pa_cons (pv 1) (pa_cons (pe_glob (v := .ref (gD K)) (by rfl) T.gdd rfl) pa_nil)))
      (pe_one (pe_cmpR op_eq (pe_callTy (call_strK T (hr.mono (by decide))) (by rfl) (T.fr "str" (by decide)) boot_T (pa_cons (pv 0) pa_nil)) (pe_callTy (call_strK T (hr.mono (by decide))) (by rfl) (T.fr "str" (by decide)) boot_T (pa_cons (pv 1) pa_nil)) (nomark _)))))), ?_⟩
    rcases h with ⟨k', ns', up', ⟨b, rfl, hd'⟩, q⟩ | ⟨t, ht, ty, q⟩
    · refine ⟨_, rfl, .ref b, .ref (gD K), _, _, true, rfl, .own _, kd_ty T hd'.at_, kd_deed T k', true, rfl, if_posB rfl ?_⟩
      · have e := ER.op (σ := [some (.ref a), some (.ref b)]) (H := H) (r := rEq) (R := IsV (.bl (decide (dTx k ns up = dTx k' ns' up')))) (er_strK (K := K) (er_var (i := 0) rfl stb_g ⟨a, rfl, hd⟩)) stb_v (er_strK (K := K) (er_var (i := 1) rfl stb_g ⟨b, rfl, hd'⟩)) fun u v H1 F s e1 e2 k => by
          obtain rfl := e1
          obtain rfl := e2
          refine ⟨rfl, ?_⟩
          rw [strB]
          exact k _ H1 same_rfl rfl
        exact e.go fun v H1 s1 e => by
          obtain rfl := e
          exact q H1 s1
    · exact ⟨_, rfl, v, .ref (gD K), _, _, false, rfl, .own _, ty, bes_kit T ht, false, rfl, if_negB rfl (q H same_rfl)⟩
end
/-- == and != of a deed, as it is called -/
def rEqG (K : PySem.W.Frag) : R2 := fun x y H Q => ∃ k : Kd, Oo.rOwn2 K (ga K k.cls) (fun t => PySem.W.notFirst K (ga K k.cls) t = true) (spEq K k) E0 x y H Q
def rNeG (K : PySem.W.Frag) : R2 := fun x y H Q => ∃ k : Kd, Oo.rNeO K (ga K k.cls) (spEq K k) E0 x y H Q
section
variable {X : Cx}
theorem op_eqG (T : KF X.prog X.w X.K X.mg X.base) (hr : Room 7 X.A) : OpR X (compareOp .Eq) (rEqG X.K) := op_ex fun k => by
  obtain ⟨m, fd, G, b⟩ := eq_k (w := X.w) T k
  exact Oo.op_cmpO (op := .Eq) (fun _ _ => rfl) m (Oo.FnOk.r0 G b) (hr.mono (by decide)) pass0
theorem op_neG (T : KF X.prog X.w X.K X.mg X.base) (hr : Room 7 X.A) : OpR X (compareOp .NotEq) (rNeG X.K) := op_ex fun k => by
  obtain ⟨m, fd, G, b⟩ := eq_k (w := X.w) T k
  exact Oo.op_neO m (kd_ne T k).1 (kd_ne T k).2 G b (hr.mono (by decide)) pass0
end
section
variable {P : Program} {w : World} {K : PySem.W.Frag} {mg : Str → Option Value} {base : Heap} {σ : L2.St} {H : Hp} {ta tb : TE} {k k' : Kd} {ns ns' : List V} {up up' : V}
theorem er_eqG (T : KF P w K mg base) (ha : ER ta σ H (IsG K k ns up)) (hb : ER tb σ H (IsG K k' ns' up')) : ER (tOp (rEqG K) ta tb) σ H (IsV (.bl (decide (dTx k ns up = dTx k' ns' up')))) :=
  ha.op stb_g hb fun u v H1 F s ⟨a, e1, h1⟩ ⟨b, e2, h2⟩ q => by
    obtain rfl := e1
    obtain rfl := e2
    obtain ⟨dx, fs, hx, _⟩ := h1.at_
    exact ⟨k, a, dx, fs, _, rfl, hx, kd_ty T h2.at_, (kd_first T k).1 k', a, .ref b, ns, up, rfl, h1, .inl ⟨k', ns', up', ⟨b, rfl, h2⟩, fun H' s' => q _ H' s' rfl⟩⟩
theorem er_neG (T : KF P w K mg base) (ha : ER ta σ H (IsG K k ns up)) (hb : ER tb σ H (IsG K k' ns' up')) : ER (tOp (rNeG K) ta tb) σ H (IsV (.bl (!decide (dTx k ns up = dTx k' ns' up')))) :=
  ha.op stb_g hb fun u v H1 F s ⟨a, e1, h1⟩ ⟨b, e2, h2⟩ q => by
    obtain rfl := e1
    obtain rfl := e2
    obtain ⟨dx, fs, hx, _⟩ := h1.at_
    exact ⟨k, a, dx, fs, _, rfl, hx, kd_ty T h2.at_, (kd_first T k).1 k', a, .ref b, ns, up, rfl, h1, .inl ⟨k', ns', up', ⟨b, rfl, h2⟩, fun H' s' => ⟨_, rfl, q _ H' s' rfl⟩⟩⟩
/-- a deed beside what is none -/
theorem er_eqO (T : KF P w K mg base) {B : V → Hp → Prop} {t : String} (ht : t ∈ besT) (ha : ER ta σ H (IsG K k ns up)) (hb : ER tb σ H B) (ty : ∀ v H', B v H' → TyX K H' v (.type t)) : ER (tOp (rEqG K) ta tb) σ H (IsV (.bl false)) :=
  ha.op stb_g hb fun u v H1 F s ⟨a, e1, h1⟩ e2 q => by
    obtain rfl := e1
    obtain ⟨dx, fs, hx, _⟩ := h1.at_
    exact ⟨k, a, dx, fs, _, rfl, hx, ty v H1 e2, (kd_first T k).2 t ht, a, v, ns, up, rfl, h1, .inr ⟨t, ht, ty v H1 e2, fun H' s' => q _ H' s' rfl⟩⟩
end
end K8
set_option Elab.async false
set_option linter.all false
set_option maxRecDepth 100000
set_option maxHeartbeats 1000000
/-! raise X(v, u). -/
namespace K8
open PySem PySem.Spec PyProof.Rows L2 RV EV He EF EI
theorem mkb2 {H : Hp} {C : Addr} {f g : Str} {v u : V} {Q : XK} (q : Bad2 C f g H Q v u) : [v, u].length ≤ 1000 ∧ ∀ a, H a = none → spE2 C f g (.ref a :: ([v, u] ++ [])) (upd H a (exo a C none))
      (fun v H2 => v = .non ∧ ∃ (d : Addr) (fs : List (Str × V)), H2 a = some (exo a C (some d)) ∧ H2 d = some (exd d fs) ∧ H d = none ∧ Q (.ref C) (some d) (upd (L2.del H2 a) d (.xd fs))) (fun _ _ _ => False) := mkb q
def tRaise2 (C : Addr) (f g : Str) (te te2 : TE) (W : WX) : TS := fun _ σ H => tMkO C (spE2 C f g) [] (tCons te (tCons te2 tNil)) σ H fun cls d H' => W cls d σ H'
section
variable {X : Cx} {W : WX} {e e2 : Expr} {te te2 : TE} {p pos pos2 : Pos} {x f g : Str} {bs : List Str}
theorem ps_raise2 (T : Cl2 X.prog X.w X.K X.mg X.base x f g bs) (hr : Room 2 X.A) (hc : X.calm = true) (tk : Takes X W) (hg : Gl X x) (he : PE X e te) (he2 : PE X e2 te2)
    (hs : starEach [e, e2] X.env = (false, eval e X.env) :: starEach [e2] X.env := by rfl) (hs2 : starEach [e2] X.env = (false, eval e2 X.env) :: starEach [] X.env := by rfl)
    (hpl : (backTo pos (starEach [e2] X.env)).any (·.1) = false := by rfl) (hdb : (x == ("__debug__" : Str)) = false := by decide) : PS X (.Raise (some (.Call (.Name x p) [e, e2] [] pos)) none pos2) (tRaise2 (ga X.K x) f g te te2 W) := by
  obtain ⟨fI, fd, iC, tI, F1, b1, _⟩ := T.mkr
  exact ps_raise hc tk (pmk_oex (dvs := []) T.e.ox iC tI F1 hr b1 .nil (fun _ _ _ _ _ _ _ z => z.elim) hg T.gl (pa_cons he (pa_cons he2 pa_nil (hs := hs2)) (hs := hs)) hdb hs hpl)
end
end K8
set_option Elab.async false
set_option linter.all false
set_option maxRecDepth 100000
set_option maxHeartbeats 1000000
/-! Names in order: no Python here. -/
namespace K8
open PySem PySem.Spec PyProof.Rows
/-- x is ahead of y -/
def LtS (x y : Str) : Prop := x.cps.toList < y.cps.toList
instance (x y : Str) : Decidable (LtS x y) := inferInstanceAs (Decidable (x.cps.toList < y.cps.toList))
theorem lt_irr (x : Str) : ¬ LtS x x := List.lt_irrefl _
theorem lt_tr {x y z : Str} (a : LtS x y) (b : LtS y z) : LtS x z := List.lt_trans a b
theorem lt_as {x y : Str} (a : LtS x y) : ¬ LtS y x := List.lt_asymm a
theorem lt_tri {x y : Str} (a : ¬ LtS x y) (b : ¬ LtS y x) : x = y := by
  refine ext_toList ?_
  have a' : y.cps.toList ≤ x.cps.toList := List.not_lt.mp a
  have b' : x.cps.toList ≤ y.cps.toList := List.not_lt.mp b
  exact List.le_antisymm b' a'
theorem lt_ne {x y : Str} (a : LtS x y) : x ≠ y := fun e => lt_irr y (e ▸ a)
abbrev Asc (xs : List Str) : Prop := xs.Pairwise LtS
def insS (x : Str) : List Str → List Str
  | [] => [x]
  | y :: r => if LtS x y then x :: y :: r else if LtS y x then y :: insS x r else y :: r
def lined (xs : List Str) : List Str := xs.foldr insS []
theorem mem_ins {a x : Str} : ∀ {l : List Str}, a ∈ insS x l ↔ a = x ∨ a ∈ l
  | [] => by simp [insS]
  | y :: r => by
    unfold insS
    split
    · simp
    · split
      · rw [List.mem_cons, mem_ins, List.mem_cons]
        constructor
        · rintro (h | h | h)
          · exact .inr (.inl h)
          · exact .inl h
          · exact .inr (.inr h)
        · rintro (h | h | h)
          · exact .inr (.inl h)
          · exact .inl h
          · exact .inr (.inr h)
      · rename_i h1 h2
        have e := lt_tri h1 h2
        subst e
        simp
theorem mem_lined {a : Str} : ∀ {l : List Str}, a ∈ lined l ↔ a ∈ l
  | [] => Iff.rfl
  | x :: r => by
    show a ∈ insS x (lined r) ↔ _
    rw [mem_ins, mem_lined, List.mem_cons]
theorem asc_ins {x : Str} : ∀ {l : List Str}, Asc l → Asc (insS x l)
  | [], _ => by simp [insS]
  | y :: r, h => by
    obtain ⟨h1, h2⟩ := List.pairwise_cons.mp h
    unfold insS
    split
    · rename_i q
      refine List.pairwise_cons.mpr ⟨fun z hz => ?_, h⟩
      rcases List.mem_cons.mp hz with e | e
      · rw [e]; exact q
      · exact lt_tr q (h1 z e)
    · split
      · rename_i q
        refine List.pairwise_cons.mpr ⟨fun z hz => ?_, asc_ins h2⟩
        rcases mem_ins.mp hz with e | e
        · rw [e]; exact q
        · exact h1 z e
      · exact h
theorem asc_lined : ∀ (l : List Str), Asc (lined l)
  | [] => List.Pairwise.nil
  | x :: r => asc_ins (asc_lined r)
/-- ascending lists of the same names are the same -/
theorem asc_uniq : ∀ {xs ys : List Str}, Asc xs → Asc ys → (∀ a, a ∈ xs ↔ a ∈ ys) → xs = ys
  | [], [], _, _, _ => rfl
  | [], y :: ys, _, _, h => absurd ((h y).mpr (List.mem_cons_self ..)) (by simp)
  | x :: xs, [], _, _, h => absurd ((h x).mp (List.mem_cons_self ..)) (by simp)
  | x :: xs, y :: ys, hx, hy, h => by
    obtain ⟨x1, x2⟩ := List.pairwise_cons.mp hx
    obtain ⟨y1, y2⟩ := List.pairwise_cons.mp hy
    have e : x = y := by
      rcases List.mem_cons.mp ((h x).mp (List.mem_cons_self ..)) with e | e
      · exact e
      · rcases List.mem_cons.mp ((h y).mpr (List.mem_cons_self ..)) with e2 | e2
        · exact e2.symm
        · exact absurd (y1 x e) (lt_as (x1 y e2))
    subst e
    refine congrArg (x :: ·) (asc_uniq x2 y2 fun a => ?_)
    constructor
    · intro ha
      rcases List.mem_cons.mp ((h a).mp (List.mem_cons_of_mem _ ha)) with e | e
      · exact absurd (e ▸ x1 a ha) (lt_irr _)
      · exact e
    · intro ha
      rcases List.mem_cons.mp ((h a).mpr (List.mem_cons_of_mem _ ha)) with e | e
      · exact absurd (e ▸ y1 a ha) (lt_irr _)
      · exact e
theorem lined_asc {l : List Str} (h : Asc l) : lined l = l := asc_uniq (asc_lined l) h fun _ => mem_lined
theorem lined_eq {l m : List Str} (h : ∀ a, a ∈ l ↔ a ∈ m) : lined l = lined m := asc_uniq (asc_lined l) (asc_lined m) fun a => by rw [mem_lined, mem_lined]; exact h a
theorem asc_nodup {l : List Str} (h : Asc l) : l.Nodup := List.Pairwise.imp (fun a => lt_ne a) h
theorem ins_len {x : Str} : ∀ (l : List Str), (insS x l).length ≤ l.length + 1
  | [] => by simp [insS]
  | y :: r => by
    unfold insS
    split
    · simp
    · split
      · have := ins_len (x := x) r
        simp only [List.length_cons]
        omega
      · simp
theorem lined_len : ∀ (l : List Str), (lined l).length ≤ l.length
  | [] => Nat.le_refl _
  | x :: r => by
    have h1 := ins_len (x := x) (lined r)
    have h2 := lined_len r
    show (insS x (lined r)).length ≤ r.length + 1
    omega
/-- a sorted list without twins is ascending -/
theorem asc_of_sorted {ys : List Str} (h : sortedS ys = true) (hn : ys.Nodup) : Asc ys := by
  have key : ∀ (r : List Str) (p : Str), risingS p r = true → (p :: r).Pairwise fun a b => ¬ LtS b a := by
    intro r
    induction r with
    | nil => intro p _; simp
    | cons y r ih =>
      intro p hp
      unfold risingS at hp
      obtain ⟨h1, h2⟩ := Bool.and_eq_true_iff.mp hp
      have ih2 := ih y h2
      have q : ¬ LtS y p := by
        rw [ltCps_eq] at h1
        exact of_decide_eq_false (Bool.not_eq_true' _ ▸ h1)
      refine List.pairwise_cons.mpr ⟨fun z hz => ?_, ih2⟩
      rcases List.mem_cons.mp hz with e | e
      · rw [e]; exact q
      · intro zp
        have yz := (List.pairwise_cons.mp ih2).1 z e
        by_cases c : LtS y z
        · exact q (lt_tr c zp)
        · rw [lt_tri c yz] at q
          exact q zp
  have all : ys.Pairwise fun a b => ¬ LtS b a := by
    cases ys with
    | nil => exact List.Pairwise.nil
    | cons y r => exact key r y h
  refine List.Pairwise.imp (fun {a b} ⟨h1, h2⟩ => ?_) (List.Pairwise.and hn all)
  by_cases c : LtS a b
  · exact c
  · exact absurd (lt_tri c h2) h1
/-- sorted of unlike names: in order -/
theorem sorted_lined {xs ys : List Str} (hp : ys.Perm xs) (hs : sortedS ys = true) (hn : xs.Nodup) : ys = lined xs :=
  asc_uniq (asc_of_sorted hs (hp.symm.nodup hn)) (asc_lined xs) fun a => by rw [mem_lined]; exact hp.mem_iff
end K8
set_option Elab.async false
set_option linter.all false
set_option maxRecDepth 100000
set_option maxHeartbeats 1000000
/-! name = {k: v for ..} on one line, the name a local. -/
namespace Oo
open PySem PySem.Spec PyProof.Rows L2
section
variable {X : Cx}
theorem sw_dict {kx vx : Expr} {gs : List Comprehension} {scope : Scope} {pos py : Pos} {y : Str} {l : Nat} {env : Env} (a : env.scope.kind = .function) (b : env.scope.names.lookup y = some .local) (c : (py.line == pos.line) = true)
    (d : (scope.names.any fun (n, k) => n == y && (k == .local || k == .cell)) = false) : swapsWith (.DictComp kx vx gs scope pos) (some (.Name y py)) l env = pure true := by
  have e1 : env.kindOf y = some .local := b
  have e2 : env.blockKind = .function := by unfold Env.blockKind; rw [a]; rfl
  unfold swapsWith
  simp only [e2, e1, d, Expr.pos, c]
  rfl
theorem ps_setDc {i : Nat} {y : Str} {py : Pos} {kx vx tg iter : Expr} {ifs : List Expr} {scope : Scope} {own : List (Str × Nat)} {pos spos : Pos} {wi : TI} {g : TG} {tt : TT} {tk tv : TE} (hc : X.calm = true) (hN : X.N.Nodup) (hy : X.N[i]? = some y) (hyl : X.env.scope.names.lookup y = some .local)
    (hsw : swapsWith (.DictComp kx vx [⟨tg, iter, ifs, 0⟩] scope pos) (some (.Name y py)) spos.line X.env = pure true) (hi : PI X tg iter wi) (ok : BlkOk X.N X.env.scope scope own)
    (hg : ∀ (s : Shared) (H : Hp) (C : Addr) (cl : List (Str × Addr)) (fp : List Addr), PG (X.blk s H scope (compEnvC scope cl C X.env) fp) tg g) (ht : ∀ (s : Shared) (H : Hp) (C : Addr) (cl : List (Str × Addr)) (fp : List Addr), PTs (X.blk s H scope (compEnvC scope cl C X.env) fp) ifs tt)
    (hk : ∀ (s : Shared) (H : Hp) (C : Addr) (cl : List (Str × Addr)) (fp : List Addr), PE (X.blk s H scope (compEnvC scope cl C X.env) fp) kx tk)
    (he : ∀ (s : Shared) (H : Hp) (C : Addr) (cl : List (Str × Addr)) (fp : List Addr), PE (X.blk s H scope (compEnvC scope cl C X.env) fp) vx tv) (hs : ∀ x, foldedSetIterable iter X.env x = pure x := by intro _; rfl) :
    PS X (.Assign [.Name y py] (.DictComp kx vx [⟨tg, iter, ifs, 0⟩] scope pos) spos) (tAsg (tDc wi g tt tk tv (own.map (·.2))) (gName i)) := by
  refine ⟨fun pins s σ H D I h => ?_⟩
  rw [exec_Assign_Name_used _ _ _ _ hsw]
  refine wpAny_bind (wpAny_standAt (wpAny_bind ?_))
  have h : tDc wi g tt tk tv (own.map (·.2)) σ H (fun x H1 => gName i x σ H1 D.nx) := h
  show wpAny _ X.A (do let _ ← comprehension (.DictComp kx vx [⟨tg, iter, ifs, 0⟩] scope pos) scope X.env (firstIterPos [⟨tg, iter, ifs, 0⟩] pos) newDict false (eval iter X.env) (some (assign (.Name y py) X.env))) _ _ s
  refine wpAny_bind (thn (dc_core (Qf := fun _ s' => SP X pins D .next s') hc hN I hi ok hg ht hk he hs h fun L C s' m H' J q hn fp => ?_) fun _ s' z => wpAny_pure (wpAny_pure z))
  show wpAny _ _ (assign (.Name y py) X.env (.ref L)) _ _ _
  obtain ⟨g0, g1, g2, g3, g4, g5⟩ := fp
  refine wpAny_assign_Name (store_ok2 (v := V.ref L) J hN hy (.inl hyl) rfl (fun s2 J2 ⟨a, sb, ha⟩ => ?_) (.inr hyl))
  have ne : C ≠ a := ha.elim (fun z => z ▸ g1) fun z e => g4 y a z e.symm
  refine ⟨m, hn.sameBut sb ne, fun h3 sb3 => ?_⟩
  exact ⟨_, H', J2.turned (t' := s2.toks) (fun b o hb e => (sb3.2 b hb).trans e) g0 g1 g3 g4 g5, q⟩
end
end Oo
set_option Elab.async false
set_option linter.all false
set_option maxRecDepth 100000
set_option maxHeartbeats 1000000
namespace K8
open PySem PySem.Spec PyProof.Rows L2 RV EV He EF EI
abbrev lAd (K : PySem.W.Frag) (m : Str) : Addr := ma K (gO K) m
abbrev scLi_N : List Str := ["self", "fixes", "fix", "unlike"]
theorem scLi : FnScope scLi_N ["self", "fixes"] (defScope (lSt 1)) := ⟨rfl, rfl, rfl, by decide +kernel, rfl, by decide +kernel, by decide +kernel⟩
section
variable {P : Program} {w : World} {K : PySem.W.Frag} {mg : Str → Option Value} {base : Heap}
theorem cread (T : KF P w K mg base) : ClX.CRead K (gO K) (.type "type") := by
  obtain ⟨_, h⟩ := ba T.l4
  obtain ⟨h1, h2⟩ := ba h
  exact ⟨h1, eqO_ok h2⟩
theorem most (T : KF P w K mg base) : ∃ t, ClX.CVal K (gO K) (.type "type") "MOST" (.int 8) (.int 8 t) := by
  obtain ⟨h, _⟩ := ba T.l4
  unfold mostB at h
  split at h
  · rename_i n t e
    have := of_decide_eq_true h
    subst this
    exact ⟨t, e, ⟨t, rfl⟩⟩
  · cases h
/-- what is no fix -/
def NoFix (K : PySem.W.Frag) (H : Hp) (v : V) : Prop := (∃ x, v = .str x ∧ x.length ≤ 1000000 ∧ isFixB x = false) ∨ ∃ t, TyX K H v t ∧ PySem.W.kitOne K t (.type "str") = some false
theorem fixL_len {x : Str} (h : isFixB x = true) : x.length ≤ 8 := by
  unfold isFixB at h
  obtain ⟨_, h⟩ := ba h
  obtain ⟨h, _⟩ := ba h
  have := of_decide_eq_true h
  omega
/-- names that are looked at one by one -/
def Chk (K : PySem.W.Frag) (xs : List V) (H : Hp) (E : XK) (R : List Str → Hp → Prop) : Prop :=
  (∃ ss : List Str, xs = ss.map V.str ∧ (∀ x ∈ ss, isFixB x = true) ∧ ∀ H', Same H H' → R ss H') ∨
  (∃ (ss : List Str) (v : V) (rest : List V), xs = ss.map V.str ++ v :: rest ∧ (∀ x ∈ ss, isFixB x = true) ∧ ∀ H', Same H H' → NoFix K H' v ∧ Bad1 (ga K "BadFix") "value" H' E v)
def tCk (K : PySem.W.Frag) (E : XK) : TS := tFor (iTup K (tVar 1)) (gName 2) (tIfS (tNot (tB (tCall (spFix K) [] E0 (tCons (tVar 2) tNil)))) (tRaise1 (ga K "BadFix") "value" (tVar 2) fun cls d x H => E cls d H) tNext)
theorem sp_fix {H : Hp} {v : V} {E : XK} {Q : VK} (h : (∃ x, v = .str x ∧ isFixB x = true) ∨ NoFix K H v) (q : ∀ H', Same H H' → ∀ b, b = (match v with | .str x => isFixB x | _ => false) → Q (.bl b) H') : spFix K [v] H Q E := by
  rcases h with ⟨x, rfl, hx⟩ | ⟨x, rfl, hz, hx⟩ | ⟨t, ht, hk⟩
  · exact ⟨_, rfl, .inl ⟨x, rfl, Nat.le_trans (fixL_len hx) (by decide), fun H' s' => q H' s' _ rfl⟩⟩
  · exact ⟨_, rfl, .inl ⟨x, rfl, hz, fun H' s' => q H' s' _ rfl⟩⟩
  · refine ⟨_, rfl, .inr ⟨t, ht, hk, q H (fun _ _ e => e) _ ?_⟩⟩
    cases v with
    | str x =>
      have e : t = .type "str" := by
        cases ht with
        | base h => cases h; rfl
      subst e
      exact absurd hk (by rw [kit_ty (by decide +kernel : kitB "str" "str" = some true)]; intro z; cases z)
    | _ => rfl
theorem ck_read {s0 : V} {T : Addr} {xs : List V} {H : Hp} {E : XK} {D : Ends} (sq : ∀ H', Same H H' → SqT K H' T xs) (c : Chk K xs H E fun ss H' => ∀ o, D.nx [some s0, some (.ref T), o, none] H') : tCk K E D [some s0, some (.ref T), none, none] H := by
  have one : ∀ (ss : List Str) (n : Nat), (∀ x ∈ ss, isFixB x = true) → ∀ i x (H1 : Hp) (R : Hp → Prop) (σ : L2.St), xs[i]? = some x → i < ss.length → (∀ j, j < ss.length → xs[j]? = (ss[j]?).map V.str) → (∀ H', Same H1 H' → R H') → ∀ D' : Ends, (∀ σ' H', R H' → σ' = σ → D'.nx σ' H') → σ[2]? = some (some x) →
      tIfS (tNot (tB (tCall (spFix K) [] E0 (tCons (tVar 2) tNil)))) (tRaise1 (ga K "BadFix") "value" (tVar 2) fun cls d x H => E cls d H) tNext D' σ H1 := by
    intro ss n hf i x H1 R σ hx hi hj hR D' hD hs
    rw [hj i hi] at hx
    have hz : ss[i]? = some ss[i] := List.getElem?_eq_getElem hi
    rw [hz] at hx
    obtain rfl := Option.some.inj hx
    have hfx := hf _ (List.getElem_mem hi)
    refine ⟨_, hs, ?_⟩
    unfold tNil
    show spFix K [V.str ss[i]] H1 _ _
    refine sp_fix (.inl ⟨_, rfl, hfx⟩) fun H' s' b hb => ⟨b, rfl, if_negB ?_ (hD _ _ (hR H' s') rfl)⟩
    rw [hb]
    show (!isFixB ss[i]) = false
    rw [hfx]
    rfl
  rcases c with ⟨ss, rfl, hf, k⟩ | ⟨ss, v, rest, rfl, hf, k⟩
  · refine ⟨_, rfl, T, rfl, ⟨_, sq H fun _ _ e => e⟩, for_it (walk_tup (xs := ss.map V.str)) (fun i σ' H' => (∃ o, σ' = [some s0, some (.ref T), o, none]) ∧ Same H H') ⟨⟨_, rfl⟩, fun _ _ e => e⟩ (fun i σ' H' _ p => sq H' p.2) ?_ ?_⟩
    · rintro i x σ' H1 H2 hi ⟨⟨o, rfl⟩, s1⟩ ⟨rfl, hx⟩
      have hl : i < ss.length := by rw [List.length_map] at hi; exact hi
      exact one ss 0 hf i x _ (fun H' => Same H H') _ hx hl (fun j _ => by rw [List.getElem?_map]) (fun H' s' => s1.trans s') _ (fun σ2 H2 r e => ⟨⟨some x, e⟩, r⟩) rfl
    · rintro σ' H' ⟨⟨o, rfl⟩, s1⟩
      exact k H' s1 o
  · refine ⟨_, rfl, T, rfl, ⟨_, sq H fun _ _ e => e⟩, for_it (walk_tup (xs := ss.map V.str ++ v :: rest)) (fun i σ' H' => (∃ o, σ' = [some s0, some (.ref T), o, none]) ∧ Same H H' ∧ i ≤ ss.length) ⟨⟨_, rfl⟩, fun _ _ e => e, Nat.zero_le _⟩ (fun i σ' H' _ p => sq H' p.2.1) ?_ ?_⟩
    · rintro i x σ' H1 H2 hi ⟨⟨o, rfl⟩, s1, hle⟩ ⟨rfl, hx⟩
      by_cases hl : i < ss.length
      · refine one ss 0 hf i x _ (fun H' => Same H H') _ hx hl (fun j hj => ?_) (fun H' s' => s1.trans s') _ (fun σ2 H2 r e => ⟨⟨some x, e⟩, r, hl⟩) rfl
        rw [List.getElem?_append_left (by rw [List.length_map]; exact hj), List.getElem?_map]
      · have e : i = ss.length := by omega
        subst e
        rw [List.getElem?_append_right (by rw [List.length_map]; exact Nat.le_refl _), List.length_map, Nat.sub_self] at hx
        obtain rfl : v = x := Option.some.inj hx
        obtain ⟨nf, bd⟩ := k _ s1
        refine ⟨_, rfl, ?_⟩
        unfold tNil
        show spFix K [v] _ _ _
        refine sp_fix (.inr nf) fun H' s' b hb => ⟨b, rfl, if_posB ?_ ⟨_, rfl, mkb1 (k H' (s1.trans s')).2⟩⟩
        rw [hb]
        rcases nf with ⟨x, rfl, _, h⟩ | ⟨t, ht, hk⟩
        · show (!isFixB x) = true
          rw [h]; rfl
        · cases v with
          | str x =>
            have e : t = .type "str" := by
              cases ht with
              | base h => cases h; rfl
            subst e
            exact absurd hk (by rw [kit_ty (by decide +kernel : kitB "str" "str" = some true)]; intro z; cases z)
          | _ => rfl
    · rintro σ' H' ⟨_, _, hle⟩
      rw [List.length_append, List.length_map, List.length_cons] at hle
      omega
end
end K8
set_option Elab.async false
set_option linter.all false
set_option maxRecDepth 100000
set_option maxHeartbeats 1000000
/-! Lot.__init__, further: the dict of unlike names, and what is kept. -/
namespace K8
open PySem PySem.Spec PyProof.Rows L2 RV EV He EF EI
def firstsA : List Str → List Str → List Str
  | acc, [] => acc
  | acc, x :: r => firstsA (if x ∈ acc then acc else acc ++ [x]) r
abbrev firsts (ss : List Str) : List Str := firstsA [] ss
theorem firstsA_snoc {x : Str} : ∀ (l acc : List Str), firstsA acc (l ++ [x]) = if x ∈ firstsA acc l then firstsA acc l else firstsA acc l ++ [x]
  | [], _ => rfl
  | y :: r, acc => firstsA_snoc r _
theorem mem_firstsA {a : Str} : ∀ (l acc : List Str), a ∈ firstsA acc l ↔ a ∈ acc ∨ a ∈ l
  | [], acc => by simp [firstsA]
  | x :: r, acc => by
    show a ∈ firstsA _ r ↔ _
    rw [mem_firstsA r]
    by_cases h : x ∈ acc
    · rw [if_pos h, List.mem_cons]
      constructor
      · rintro (h1 | h1)
        · exact .inl h1
        · exact .inr (.inr h1)
      · rintro (h1 | rfl | h1)
        · exact .inl h1
        · exact .inl h
        · exact .inr h1
    · rw [if_neg h, List.mem_append, List.mem_singleton, List.mem_cons, or_assoc]
theorem nodup_firstsA : ∀ (l acc : List Str), acc.Nodup → (firstsA acc l).Nodup
  | [], acc, h => h
  | x :: r, acc, h => by
    refine nodup_firstsA r _ ?_
    by_cases e : x ∈ acc
    · rw [if_pos e]; exact h
    · rw [if_neg e]
      refine List.nodup_append.mpr ⟨h, by simp, ?_⟩
      intro a ha b hb
      rw [List.mem_singleton.mp hb]
      exact fun z => e (z ▸ ha)
theorem len_firstsA : ∀ (l acc : List Str), (firstsA acc l).length ≤ acc.length + l.length
  | [], acc => Nat.le_refl _
  | x :: r, acc => by
    have := len_firstsA r (if x ∈ acc then acc else acc ++ [x])
    show (firstsA _ r).length ≤ _
    have h2 : (if x ∈ acc then acc else acc ++ [x]).length ≤ acc.length + 1 := by
      split
      · omega
      · simp
    rw [List.length_cons]
    omega
theorem mem_firsts {a : Str} {l : List Str} : a ∈ firsts l ↔ a ∈ l := by rw [mem_firstsA]; simp
theorem nodup_firsts {l : List Str} : (firsts l).Nodup := nodup_firstsA l [] List.nodup_nil
theorem lined_firsts {l : List Str} : lined (firsts l) = lined l := lined_eq fun _ => mem_firsts
theorem lined_perm {l : List Str} (h : l.Nodup) : (lined l).Perm l := (List.perm_ext_iff_of_nodup (asc_nodup (asc_lined l)) h).mpr fun _ => mem_lined
theorem len_firsts {l : List Str} : (firsts l).length = (lined l).length := by
  rw [← lined_firsts]
  exact (lined_perm nodup_firsts).length_eq.symm
def kvsOf (l : List Str) : List (Key × V) := l.map fun x => (Sum.inr x, V.bl true)
theorem put_firsts (acc : List Str) (x : Str) : putK (kvsOf acc) (Sum.inr x) (V.bl true) = kvsOf (if x ∈ acc then acc else acc ++ [x]) := by
  unfold putK
  have e : ((kvsOf acc).any fun kv => decide (kv.1 = Sum.inr x)) = decide (x ∈ acc) := by
    unfold kvsOf
    induction acc with
    | nil => rfl
    | cons y r ih =>
      rw [List.map_cons, List.any_cons, ih]
      by_cases h : x = y
      · subst h; simp
      · have h2 : y ≠ x := fun z => h z.symm
        have h3 : (Sum.inr y : Key) ≠ Sum.inr x := fun z => h2 (Sum.inr.inj z)
        simp [h, h3]
  rw [e]
  by_cases h : x ∈ acc
  · rw [if_pos (decide_eq_true h), if_pos h]
    unfold kvsOf
    rw [List.map_map]
    refine List.map_congr_left fun y _ => ?_
    show (if (Sum.inr y : Key) = Sum.inr x then _ else _) = _
    split <;> rfl
  · rw [if_neg (by rw [decide_eq_false h]; exact Bool.false_ne_true), if_neg h]
    unfold kvsOf
    rw [List.map_append]
    rfl
section
variable {P : Program} {w : World} {K : PySem.W.Frag} {mg : Str → Option Value} {base : Heap}
def tDd (K : PySem.W.Frag) : TS := tAsg (tDc (iTup K (tVar 1)) (gName 2) tYes (tVar 2) (tC (V.bl true)) [2]) (gName 3)
theorem dd_read {s0 : V} {T : Addr} {o : Option V} {ss : List Str} {H : Hp} {D : Ends} (sq : ∀ H', Same H H' → SqT K H' T (ss.map V.str)) (hz : ss.length ≤ 1000) (k : ∀ d H', H d = none → Same H H' → H' d = some (.dK (kvsOf (firsts ss))) → D.nx [some s0, some (.ref T), o, some (.ref d)] H') :
    tDd K D [some s0, some (.ref T), o, none] H := by
  refine ⟨_, rfl, T, rfl, ⟨_, sq H fun _ _ e => e⟩, fun d nd => ?_⟩
  refine dc_tup (xs := ss.map V.str) (fun i H' => Same H H' ∧ H' d = some (.dK (kvsOf (firsts (ss.take i))))) ⟨fun c u e => by rw [upd_ne (ne_of_none e nd)]; exact e, upd_same⟩ (fun i H' _ p => sq H' p.1) ?_ ?_
  · rintro i x H' hx ⟨s1, hd⟩
    rw [List.getElem?_map] at hx
    cases e : ss[i]? with
    | none => rw [e] at hx; exact nomatch hx
    | some z =>
      rw [e] at hx
      obtain rfl : V.str z = x := Option.some.inj hx
      obtain ⟨hl, hv⟩ := List.getElem?_eq_some_iff.mp e
      refine ⟨rfl, yesB ?_⟩
      refine ⟨_, rfl, kvsOf (firsts (ss.take i)), Sum.inr z, rfl, hd, ?_, fun c u e => ?_, ?_⟩
      · have : (firsts (ss.take i)).length ≤ _ := len_firstsA (ss.take i) []
        unfold kvsOf
        rw [List.length_map, sizeLine_eq]
        rw [List.length_take, List.length_nil] at this
        omega
      · rw [upd_ne (ne_of_none e nd)]
        exact s1 c u e
      · rw [upd_same, put_firsts]
        have more : ss.take (i + 1) = ss.take i ++ [z] := by rw [← hv]; exact List.take_succ_eq_append_getElem hl
        rw [more]
        show _ = some (HO.dK (kvsOf (firstsA [] _)))
        rw [firstsA_snoc]
  · rintro H' ⟨s1, hd⟩
    rw [List.length_map, List.take_of_length_le (Nat.le_refl _)] at hd
    exact k d H' nd s1 hd
abbrev rTupL (K : PySem.W.Frag) : List V → Hp → VK → Prop := fun xs H Q => ∃ p ys, xs = [V.ref p] ∧ ((SqL K H p ys ∧ ∀ (l : Addr), H l = none → Q (V.ref l) (upd H l (HO.tup ys))) ∨ SqT K H p ys ∧ Q (V.ref p) H)
abbrev teStr (i : Nat) : TE := tCB (fun xs H Q => ∃ a, xs = [V.str a] ∧ Q (V.str a) H) (tCons (tVar i) tNil)
def tMost (K : PySem.W.Frag) : TE := ClX.tCVal K (tC (V.ref (gO K))) "MOST"
def tMany (K : PySem.W.Frag) (E : XK) : TS := tIfS (tTest (tOp (rI0 fun i j => V.bl (decide (j < i))) (tCB (fun xs H Q => ∃ a kvs, xs = [V.ref a] ∧ H a = some (HO.dK kvs) ∧ Q (V.int kvs.length) H) (tCons (tVar 3) tNil)) (tMost K)))
  (tRaise2 (ga K "TooMany") "what" "most" (tC (V.str "fixes")) (tMost K) fun cls d x H => E cls d H) tNext
def tKeep (K : PySem.W.Frag) : TS := sFld K (tVar 0) (tCB (rTupL K) (tCons (tCB (rSortedS K) (tCons (tLockE (tLc (iKeys (tVar 3)) (gName 2) tYes (teStr 2) [2])) tNil)) tNil)) "fixes"
theorem most_read (T : KF P w K mg base) {σ : L2.St} {H : Hp} {Q : VK} (k : Q (.int 8) H) : tMost K σ H Q := by
  obtain ⟨t, cv⟩ := most T
  exact ⟨gO K, .type "type", .int 8, _, rfl, cread T, cv, k⟩
theorem many_read (T : KF P w K mg base) {s0 : V} {tp d : Addr} {o : Option V} {l : List Str} {H : Hp} {E : XK} {D : Ends} (hd : H d = some (.dK (kvsOf l))) (k1 : l.length ≤ 8 → D.nx [some s0, some (.ref tp), o, some (.ref d)] H)
    (k2 : 8 < l.length → Bad2 (ga K "TooMany") "what" "most" H E (.str "fixes") (.int 8)) : tMany K E D [some s0, some (.ref tp), o, some (.ref d)] H := by
  have hl : (kvsOf l).length = l.length := List.length_map _
  refine ⟨_, rfl, d, _, rfl, hd, most_read T ⟨_, 8, rfl, rfl, _, rfl, ?_⟩⟩
  rw [hl]
  by_cases h : 8 < l.length
  · exact if_posB (decide_eq_true (by omega)) (most_read (σ := [some s0, some (.ref tp), o, some (.ref d)]) T (mkb2 (k2 h)))
  · exact if_negB (decide_eq_false (by omega)) (k1 (by omega))
theorem keep_read (T : KF P w K mg base) {p dx tp d : Addr} {o : Option V} {l : List Str} {H : Hp} {D : Ends} (hp : H p = some (.ins (gO K) dx [])) (hd : H d = some (.dK (kvsOf l))) (hn : l.Nodup) (hl : l.length ≤ 8)
    (k : ∀ H' t, Same2 H H' p → H' p = some (.ins (gO K) dx [("fixes", .ref t)]) → H' t = some (.tup ((lined l).map V.str)) → D.nx [some (.ref p), some (.ref tp), o, some (.ref d)] H') : tKeep K D [some (.ref p), some (.ref tp), o, some (.ref d)] H := by
  refine ⟨d, _, hd, trivial, fun od => ⟨_, rfl, d, od, rfl, .inl ⟨kvsOf l, upd_same, fun r nr => ?_⟩⟩⟩
  have ndr : d ≠ r := ne_of_none upd_same nr
  have nr0 : H r = none := by rw [upd_ne ndr.symm] at nr; exact nr
  refine lc_it (walk_keys (kvs := kvsOf l)) (fun i H' => (∀ c u, c ≠ d → H c = some u → H' c = some u) ∧ H' d = some (.frz od (.dK (kvsOf l))) ∧ H' r = some (.lst ((l.take i).map V.str))) ⟨fun c u hc e => ?_, ?_, upd_same⟩ (fun i H' _ q => q.2.1) ?_ ?_
  · rw [upd_ne (ne_of_none e nr0), upd_ne hc]
    exact e
  · rw [upd_ne ndr]
    exact upd_same
  · rintro i x H1 H2 hi ⟨s1, hd1, hr1⟩ ⟨rfl, key, v, hk, rfl⟩
    unfold kvsOf at hk
    rw [List.getElem?_map] at hk
    cases e : l[i]? with
    | none => rw [e] at hk; exact nomatch hk
    | some z =>
      rw [e] at hk
      obtain ⟨rfl, _⟩ := Prod.mk.inj (Option.some.inj hk)
      obtain ⟨hil, hv⟩ := List.getElem?_eq_some_iff.mp e
      refine ⟨rfl, yesB ⟨_, rfl, z, rfl, _, hr1, ?_, fun c u hc e2 => ?_, ?_, ?_⟩⟩
      · rw [List.length_map, List.length_take, sizeLine_eq]
        omega
      · rw [upd_ne (ne_of_none e2 nr0)]
        exact s1 c u hc e2
      · rw [upd_ne ndr]
        exact hd1
      · rw [upd_same]
        have more : l.take (i + 1) = l.take i ++ [z] := by rw [← hv]; exact List.take_succ_eq_append_getElem hil
        rw [more, List.map_append]
        rfl
  · rintro H1 ⟨s1, hd1, hr1⟩
    rw [show (kvsOf l).length = l.length from List.length_map _, List.take_of_length_le (Nat.le_refl _)] at hr1
    refine ⟨hd1, ?_⟩
    have sm : ∀ c u, H c = some u → upd H1 d (.dK (kvsOf l)) c = some u := fun c u e => by
      by_cases hc : c = d
      · subst hc
        rw [upd_same, ← hd]
        exact e
      · rw [upd_ne hc]
        exact s1 c u hc e
    refine ⟨r, l, rfl, SqL.of (by rw [upd_ne ndr.symm]; exact hr1), by omega, fun ys q hy hs nq => ⟨q, _, rfl, .inl ⟨SqL.of upd_same, fun t nt => ?_⟩⟩⟩
    have ey : ys = lined l := sorted_lined hy hs hn
    subst ey
    have p1 := sm p _ hp
    have n1 : p ≠ q := ne_of_none p1 nq
    have p2 : upd (upd H1 d (.dK (kvsOf l))) q (.lst ((lined l).map V.str)) p = some (.ins (gO K) dx []) := by rw [upd_ne n1]; exact p1
    have n2 : p ≠ t := ne_of_none p2 nt
    refine ⟨_, rfl, p, gO K, dx, _, rfl, by rw [upd_ne n2]; exact p2, T.clo, T.noF, by show 0 < 1000; decide, ?_⟩
    refine k _ t (fun c u hc e => ?_) ?_ ?_
    · have e1 := sm c u e
      have c1 : c ≠ q := ne_of_none e1 nq
      have e2 : upd (upd H1 d (.dK (kvsOf l))) q (.lst ((lined l).map V.str)) c = some u := by rw [upd_ne c1]; exact e1
      rw [upd_ne hc, upd_ne (ne_of_none e2 nt)]
      exact e2
    · rw [upd_same]; rfl
    · rw [upd_ne n2.symm]
      exact upd_same
end
end K8
set_option Elab.async false
set_option linter.all false
set_option maxRecDepth 100000
set_option maxHeartbeats 1000000
/-! Lot.__init__ keeps its promise. -/
namespace K8
open PySem PySem.Spec PyProof.Rows L2 RV EV He EF EI
/-- what follows when the names ss are taken: so many that they fit, or too many -/
def LotQ (K : PySem.W.Frag) (p dx : Addr) (E : XK) (Q : VK) (ss : List Str) (H' : Hp) : Prop :=
  ((lined ss).length ≤ 8 → ∀ H2 t, Same2 H' H2 p → H2 p = some (.ins (gO K) dx [("fixes", .ref t)]) → H2 t = some (.tup ((lined ss).map V.str)) → Q .non H2) ∧
  (8 < (lined ss).length → ∀ H2, Same H' H2 → Bad2 (ga K "TooMany") "what" "most" H2 E (.str "fixes") (.int 8))
def spLi (K : PySem.W.Frag) : Sp := fun vs H Q E => ∃ p dx T xs, vs = [.ref p, .ref T] ∧ H p = some (.ins (gO K) dx []) ∧ H T = some (.tup xs) ∧ xs.length ≤ 1000 ∧ Chk K xs H E (LotQ K p dx E Q)
section
variable {P : Program} {w : World} {K : PySem.W.Frag} {mg : Str → Option Value} {base : Heap}
theorem ok_li (T : KF P w K mg base) : FnR P w K mg base (L2.CX P w) 4 (lAd K "__init__") (spStar (spLi K)) := by
  obtain ⟨_, fd, F⟩ := T.lot ("__init__", 1) (by decide)
  obtain ⟨fdF, FF, gF⟩ := T.tops ("is_fix", 6) (by decide)
  have GF : FnOk P w K mg base CX0 1 (ga K "is_fix") fdF ["value"] (spFix K) := ok_fix FF (blt2 T)
  have bF : L2.Binds K fdF ["value"] [] := FunD.bindsN FF fun _ _ _ _ _ _ us hl => match us, hl with | [_], _ => rfl
  obtain ⟨oc, od, dV, kV, doc, pm, an, cdv, ct, osl, rfl, lk, hcd, hD, hK⟩ := F.ex
  rcases hD with ⟨_, rfl⟩ | ⟨e, _⟩
  case inr => exact absurd rfl e
  refine StX.fn_star (ps := ["self"]) (pv := "fixes") lk hcd scLi StX.cxUp (StX.bind_star1 (B := fun us => bindArgs _ ⟨us, []⟩) (fun a => rfl) fun a r rs => rfl) fun A outer s H vs Q E hr h => ?_
  obtain ⟨p, dx, Ta, xs, rfl, hp, hT, hz, c⟩ := h
  refine ⟨_, pss_cons (ps_for (passes_of rfl) rfl (pi_tup (pv 1)) (pg_name (i := 2) scLi.nd rfl (.inl rfl))
      (pss_one (ps_if (pt_not (pt_val (pe_call (E := E0) GF (hr.mono (by decide)) (by rfl) gF FF.kp bF .nil pass0 (pa_cons (pv 2) pa_nil))))
        (pss_one (ps_raise1 T.bf (hr.mono (by decide)) rfl (takes_of rfl rfl rfl rfl) (by rfl) (pv 2))) pss_nil)))
    (pss_cons (Oo.ps_setDc (i := 3) (own := [("fix", 2)]) (g := gName 2) (tt := tYes) (tk := tVar 2) (tv := tC (.bl true)) rfl scLi.nd rfl rfl (Oo.sw_dict rfl rfl rfl rfl) (pi_tup (pv 1)) (blkOk_by (N := scLi_N) (sc := defScope (lSt 1)) (by decide +kernel))
        (fun _ _ _ _ _ => pg_name (i := 2) scLi.nd rfl (.inl rfl)) (fun _ _ _ _ _ => pts_nil) (fun _ _ _ _ _ => pv 2) (fun _ _ _ _ _ => pe_bl))
    (pss_cons (ps_if (pt_cmpR op_gt (pe_callB call_lenD (by rfl) (T.fr "len" (by decide)) PySem.boot_len (pa_cons (pv 3) pa_nil)) (ClX.pe_cval (pe_glob (v := .ref (gO K)) (by rfl) T.go rfl)) (nomark _))
        (pss_one (ps_raise2 T.tm (hr.mono (by decide)) rfl (takes_of rfl rfl rfl rfl) (by rfl) pe_str (ClX.pe_cval (pe_glob (v := .ref (gO K)) (by rfl) T.go rfl)))) pss_nil)
    (pss_one (ps_fld (pv 0) (pe_callTy call_tuple_of (by rfl) (T.fr "tuple" (by decide)) boot_T (pa_cons (pe_callB cr_sortedS (by rfl) (T.fr "sorted" (by decide)) (by decide +kernel)
        (pa_cons (pe_lock (pe_lc (own := [("fix", 2)]) (g := gName 2) (tt := tYes) rfl scLi.nd (pi_keys (pv 3)) (blkOk_by (N := scLi_N) (sc := defScope (lSt 1)) (by decide +kernel))
          (fun _ _ _ _ _ => pg_name (i := 2) scLi.nd rfl (.inl rfl)) (fun _ _ _ _ _ => pts_nil) (fun _ _ _ _ _ => pe_callTy SkE.call_str_str (by rfl) (T.fr "str" (by decide)) boot_T (pa_cons (pv 2) pa_nil)))) pa_nil)) pa_nil)) rfl)))), ?_⟩
  show tSeq (tCk K E) (tSeq (tDd K) (tSeq (tMany K E) (tKeep K))) { nx := fun _ H' => Q .non H', rt := Q } [some (.ref p), some (.ref Ta), none, none] H
  refine ck_read (xs := xs) (fun H' s' => SqT.of (s' _ _ hT)) ?_
  have go : ∀ (ss : List Str), xs = ss.map V.str → ∀ H', Same H H' → LotQ K p dx E Q ss H' → ∀ o, tSeq (tDd K) (tSeq (tMany K E) (tKeep K)) { nx := fun _ H' => Q .non H', rt := Q } [some (.ref p), some (.ref Ta), o, none] H' := by
    intro ss ex H1 s1 q o
    have hz' : ss.length ≤ 1000 := by rw [ex, List.length_map] at hz; exact hz
    refine dd_read (ss := ss) (fun H' s' => SqT.of (by rw [← ex]; exact s' _ _ (s1 _ _ hT))) hz' fun d H2 nd s2 hd => ?_
    refine many_read T hd (fun hl => ?_) fun hl => ?_
    · refine keep_read T (s2 _ _ (s1 _ _ hp)) hd nodup_firsts hl fun H3 t s3 e1 e2 => ?_
      rw [lined_firsts] at e2
      rw [len_firsts] at hl
      exact q.1 hl H3 t (fun c u hc e => s3 c u hc (s2 c u e)) e1 e2
    · rw [len_firsts] at hl
      exact q.2 hl H2 s2
  rcases c with ⟨ss, ex, hf, k⟩ | ⟨ss, v, rest, ex, hf, k⟩
  · exact .inl ⟨ss, ex, hf, fun H' s' o => go ss ex H' s' (k H' s') o⟩
  · exact .inr ⟨ss, v, rest, ex, hf, k⟩
end
end K8
set_option Elab.async false
set_option linter.all false
set_option maxRecDepth 100000
set_option maxHeartbeats 1000000
/-! Lots as they are made; Lot.of. -/
namespace K8
open PySem PySem.Spec PyProof.Rows L2 RV EV He EF EI
/-- a lot at p: its names at tp, ascending fixes, at most eight -/
structure LO (K : PySem.W.Frag) (H : Hp) (p dx tp : Addr) (ns : List Str) : Prop where
  ob : H p = some (.ins (gO K) dx [("fixes", .ref tp)])
  ps : H tp = some (.tup (ns.map V.str))
  asc : Asc ns
  fx : ∀ x ∈ ns, isFixB x = true
  le : ns.length ≤ 8
theorem LO.same {K : PySem.W.Frag} {H H' : Hp} {p dx tp : Addr} {ns : List Str} (o : LO K H p dx tp ns) (s : Same H H') : LO K H' p dx tp ns := ⟨s _ _ o.ob, s _ _ o.ps, o.asc, o.fx, o.le⟩
abbrev IsLot (K : PySem.W.Frag) (H : Hp) (p : Addr) (ns : List Str) : Prop := ∃ dx tp, LO K H p dx tp ns
/-- what is got of a lot of the names ss: a new one, or TooMany -/
def LotR (K : PySem.W.Frag) (E : XK) (Q : VK) (ss : List Str) (H' : Hp) : Prop :=
  ((lined ss).length ≤ 8 → ∀ H2 p dx tp, Same H' H2 → LO K H2 p dx tp (lined ss) → Q (.ref p) H2) ∧
  (8 < (lined ss).length → ∀ H2, Same H' H2 → Bad2 (ga K "TooMany") "what" "most" H2 E (.str "fixes") (.int 8))
/-- Lot(*xs) -/
def MkLot (K : PySem.W.Frag) (xs : List V) (H : Hp) (Q : VK) (E : XK) : Prop := xs.length ≤ 1000 ∧ Chk K xs H E (LotR K E Q)
theorem Chk.mono {K : PySem.W.Frag} {xs : List V} {H H1 : Hp} {E : XK} {R R' : List Str → Hp → Prop} (c : Chk K xs H E R) (s : Same H H1) (h : ∀ ss H', (∀ x ∈ ss, isFixB x = true) → Same H1 H' → R ss H' → R' ss H') : Chk K xs H1 E R' := by
  rcases c with ⟨ss, e, f, k⟩ | ⟨ss, v, r, e, f, k⟩
  · exact .inl ⟨ss, e, f, fun H' s' => h ss H' f s' (k H' (s.trans s'))⟩
  · exact .inr ⟨ss, v, r, e, f, fun H' s' => k H' (s.trans s')⟩
theorem MkLot.same {K : PySem.W.Frag} {xs : List V} {H H1 : Hp} {Q : VK} {E : XK} (m : MkLot K xs H Q E) (s : Same H H1) : MkLot K xs H1 Q E := ⟨m.1, m.2.mono s fun _ _ _ _ r => r⟩
theorem MkLot.good {K : PySem.W.Frag} {ss : List Str} {H : Hp} {Q : VK} {E : XK} (hz : ss.length ≤ 1000) (hf : ∀ x ∈ ss, isFixB x = true) (k : ∀ H', Same H H' → LotR K E Q ss H') : MkLot K (ss.map V.str) H Q E :=
  ⟨by rw [List.length_map]; exact hz, .inl ⟨ss, rfl, hf, k⟩⟩
/-- from what a caller shows to what __init__ asks -/
theorem new_of {K : PySem.W.Frag} {xs : List V} {H : Hp} {Q : VK} {E : XK} (m : MkLot K xs H Q E) : Oo.wNew (gO K) (spStar (spLi K)) E xs H Q := by
  intro x dx hx hdx ne
  refine ⟨[.ref x], xs, rfl, rfl, by have := m.1; rw [sizeLine_eq]; omega, fun T nT => ?_⟩
  have s1 : Same H (upd (upd H dx (.own x)) x (.ins (gO K) dx [])) := fun c u e => by
    rw [upd_ne (ne_of_none e hx), upd_ne (ne_of_none e hdx)]
    exact e
  have hxT : x ≠ T := ne_of_none upd_same nT
  have s2 : Same H (upd (upd (upd H dx (.own x)) x (.ins (gO K) dx [])) T (.tup xs)) := s1.trans (same_new nT)
  refine ⟨x, dx, T, xs, rfl, by rw [upd_ne hxT]; exact upd_same, upd_same, m.1, ?_⟩
  rcases m.2 with ⟨ss, e, f, k⟩ | ⟨ss, v, r, e, f, k⟩
  · refine .inl ⟨ss, e, f, fun H' s' => ⟨fun hl H2 t s3 e1 e2 => ⟨rfl, ?_⟩, fun hl H2 s3 => ?_⟩⟩
    · have sm : Same H H2 := fun c u q => s3 c u (ne_of_none q hx) (s' c u (s2 c u q))
      exact (k H2 sm).1 hl H2 x dx t (fun _ _ q => q) ⟨e1, e2, asc_lined _, fun a ha => f a (mem_lined.mp ha), hl⟩
    · exact (k H2 ((s2.trans s').trans s3)).2 hl H2 fun _ _ q => q
  · exact .inr ⟨ss, v, r, e, f, fun H' s' => k H' (s2.trans s')⟩
section
variable {P : Program} {w : World} {K : PySem.W.Frag} {mg : Str → Option Value} {base : Heap}
theorem mk_lot (T : KF P w K mg base) : Mk K (gO K) (lAd K "__init__") := T.mko
/-- the kind of a lot -/
theorem ty_lot (T : KF P w K mg base) {H : Hp} {a dx : Addr} {fs : List (Str × V)} (e : H a = some (.ins (gO K) dx fs)) : TyX K H (.ref a) (.ref (gO K)) := by
  obtain ⟨o1, o2⟩ := ba T.ob
  obtain ⟨h1, h⟩ := ba T.l1
  obtain ⟨h2, _⟩ := ba h
  exact .base (.ins e T.clo (eqO_ok h1) (eqO_ok o1) (of_decide_eq_true o2) (of_decide_eq_true h2))
theorem kit_lot (T : KF P w K mg base) : PySem.W.kitOne K (.ref (gO K)) (.ref (gO K)) = some true := by
  obtain ⟨_, h⟩ := ba T.l5
  obtain ⟨h, _⟩ := ba h
  exact of_decide_eq_true h
theorem kit_str (T : KF P w K mg base) : PySem.W.kitOne K (.ref (gO K)) (.type "str") = some false := (of_decide_eq_true (ba T.l5).1)
theorem kit_seq (T : KF P w K mg base) : PySem.W.kitAny K (.ref (gO K)) [.type "list", .type "tuple"] = some false := by
  obtain ⟨_, h⟩ := ba T.l5
  obtain ⟨_, h⟩ := ba h
  exact of_decide_eq_true (ba h).1
theorem kit_bes (T : KF P w K mg base) {t : String} (ht : t ∈ besT) : PySem.W.kitOne K (.type t) (.ref (gO K)) = some false := by
  obtain ⟨_, h⟩ := ba T.l5
  obtain ⟨_, h⟩ := ba h
  exact of_decide_eq_true (List.all_eq_true.mp (ba h).2 t ht)
abbrev aOf (K : PySem.W.Frag) : Addr := He5.wf K (gO K) "staticmethod" "of"
theorem smet (T : KF P w K mg base) : Oo.SMet K (gO K) (.type "type") "of" (ma K (gO K) "of") (aOf K) := by
  obtain ⟨h, _⟩ := ba T.l3
  obtain ⟨fd, F⟩ := T.fo
  exact Oo.smet_of h F.kp
/-! Lot.of -/
/-- a list or a tuple of xs -/
def SeqV (K : PySem.W.Frag) (H : Hp) (v : V) (xs : List V) : Prop := ∃ a, v = .ref a ∧ (H a = some (.lst xs) ∨ H a = some (.tup xs))
def spOf (K : PySem.W.Frag) : Sp := fun vs H Q E => ∃ v, vs = [v] ∧ ((∃ xs, SeqV K H v xs ∧ ∀ H', Same H H' → MkLot K xs H' Q E) ∨
  (∀ H', Same H H' → (∃ t, TyX K H' v t ∧ PySem.W.kitAny K t [.type "list", .type "tuple"] = some false) ∧ Bad1 (ga K "BadLot") "part" H' E (.str "fixes")))
theorem scOf : FnScope ["fixes"] ["fixes"] (defScope (lSt 2)) := ⟨rfl, rfl, rfl, by decide +kernel, rfl, by decide +kernel, by decide +kernel⟩
theorem ok_of (T : KF P w K mg base) {fd : FuncData} (F : FunD K "of" "Lot.of" (defArgs (lSt 2)) (defBody (lSt 2)) (defScope (lSt 2)) [] [] (aOf K) fd) : FnOk P w K mg base (L2.CX P w) 6 (aOf K) fd ["fixes"] (spOf K) := by
  refine F.ok scOf (fun vs H Q E h => ?_) (fun cdv A outer s H vs Q E hr h => ?_)
  · obtain ⟨v, rfl, _⟩ := h
    rfl
  · obtain ⟨v, rfl, k⟩ := h
    refine ⟨_, pss_cons (ps_if (pt_not (pt_val (pe_callB call_isiT (by rfl) (T.fr "isinstance" (by decide)) PyProof.Rows.boot_isinstance (pa_cons (pv 0) (pa_cons (pe_tup (pa_cons (pe_bltn (v := .ty "list") (by rfl) (T.fr "list" (by decide)) boot_T rfl) (pa_cons (pe_bltn (v := .ty "tuple") (by rfl) (T.fr "tuple" (by decide)) boot_T rfl) pa_nil))) pa_nil)))))
        (pss_one (ps_raise1 T.bl (hr.mono (by decide)) rfl (takes_of rfl rfl rfl rfl) (by rfl) pe_str)) pss_nil)
      (pss_one (ps_ret (Oo.pe_newS (E := E) T.mko (ok_li T) hr (by rfl) T.go (passes_call (takes_of rfl rfl rfl rfl) fun _ _ _ _ h => h) (pv 0)))), ?_⟩
    have two : ∀ {σ : L2.St} {H1 : Hp} {D : Ends} {t : Value} {b : Bool}, σ[0]? = some (some v) → (∀ H', Same H1 H' → TyX K H' v t) → PySem.W.kitAny K t [.type "list", .type "tuple"] = some b → (∀ H', Same H1 H' → if (!b) = true then tRaise1 (ga K "BadLot") "part" (tC (V.str "fixes")) (fun cls d x H => E cls d H) D σ H' else tNext D σ H') →
        tIfS (tNot (tB (tCB (rIsiT K) (tCons (tVar 0) (tCons (tTup (tCons (tC (V.ty "list")) (tCons (tC (V.ty "tuple")) tNil))) tNil))))) (tRaise1 (ga K "BadLot") "part" (tC (V.str "fixes")) fun cls d x H => E cls d H) tNext D σ H1 := by
      intro σ H1 D t b hs ty kt q
      exact ⟨v, hs, by show 2 ≤ sizeLine; rw [sizeLine_eq]; decide, fun tp ntp => ⟨v, tp, _, t, _, b, rfl, upd_same, .cons (.ty _) (.cons (.ty _) .nil), ty _ (same_new ntp), kt, b, rfl, q _ (same_new ntp)⟩⟩
    rcases k with ⟨xs, ⟨a, rfl, hs⟩, k⟩ | k
    · have kl : PySem.W.kitAny K (.type "list") [.type "list", .type "tuple"] = some true := kitAny_cons (b := true) (kit_ty (by decide +kernel)) (fun z => nomatch z) fun _ => rfl
      have kt : PySem.W.kitAny K (.type "tuple") [.type "list", .type "tuple"] = some true := kitAny_cons (b := false) (kit_ty (by decide +kernel)) (fun _ => kitAny_cons (b := true) (kit_ty (by decide +kernel)) (fun z => nomatch z) fun _ => rfl) (fun z => nomatch z)
      rcases hs with hs | hs
      · refine two rfl (fun H' s' => .base (.lst (s' _ _ hs))) kl fun H' s' => if_negB rfl ?_
        exact ⟨_, rfl, a, xs, rfl, .inr (SqL.of (s' _ _ hs)), new_of (k H' s')⟩
      · refine two rfl (fun H' s' => .base (.tup (s' _ _ hs))) kt fun H' s' => if_negB rfl ?_
        exact ⟨_, rfl, a, xs, rfl, .inl (SqT.of (s' _ _ hs)), new_of (k H' s')⟩
    · refine ⟨v, rfl, by show 2 ≤ sizeLine; rw [sizeLine_eq]; decide, fun tp ntp => ?_⟩
      obtain ⟨⟨t, ty, kt⟩, bd⟩ := k _ (same_new (o := .tup [.ty "list", .ty "tuple"]) ntp)
      exact ⟨v, tp, _, t, _, false, rfl, upd_same, .cons (.ty _) (.cons (.ty _) .nil), ty, kt, false, rfl, if_posB rfl (mkb1 bd)⟩
end
end K8
set_option Elab.async false
set_option linter.all false
set_option maxRecDepth 100000
set_option maxHeartbeats 1000000
/-! len(o), bool(o), for x in o: o an instance of an own class that says so itself. -/
namespace Ow
open PySem PySem.Spec PyProof.Rows L2
section
variable {X : Cx} {CX : CXT} {k : Nat} {C f : Addr} {fd : FuncData} {ps : List Str} {sp : Sp} {E : XK}
/-- len(o) -/
def rLenO (C : Addr) (sp : Sp) (E : XK) : List V → Hp → VK → Prop := fun xs H Q => ∃ a dx fs, xs = [.ref a] ∧ H a = some (.ins C dx fs) ∧ sp [.ref a] H (fun v H' => ∃ n : Int, v = .int n ∧ 0 ≤ n ∧ n < 2 ^ 63 ∧ Q (.int n) H') E
theorem call_lenO (hs : PySem.W.findIn X.K (.ref C) "__len__" = some (some (.ref f))) (hf : PySem.W.isFn X.K (.ref f) = true) (F : FnOk X.prog X.w X.K X.mg X.base CX k f fd ps sp) (hr : Room (k + 1) X.A) (hb : Binds X.K fd ps []) (hx : Passes CX X E) :
    CallR X (.builtin "len") (rLenO C sp E) := by
  intro pins s σ H xs us Q I r h
  obtain ⟨a, dx, fs, rfl, ea, q⟩ := h
  obtain ⟨u, rfl, ru⟩ := vals1 r
  obtain rfl : u = Value.ref a := ru
  obtain ⟨mA, O, _⟩ := ins_get I.hok ea
  obtain ⟨od, J, _⟩ := O.look
  obtain ⟨m, hF⟩ := I.fr
  have hl := F.len _ _ _ _ q
  refine PySem.W.len_K hF I.ok.mod.kin J hs hf (wpAny_call (codeAny_mono (F.run X.A.in1 X.stack s H ⟨[.ref a], []⟩ [.ref a] [.ref a] _ E hr.in1 I.env0.in1 (by
    have := hb s [.ref a] I.kIn (by simpa using hl)
    simpa using this) (.cons rfl .nil) q) fun rs s' hq => ?_))
  cases rs with
  | error e => exact hx pins σ H s e s' I hq
  | ok fl =>
    cases fl with
    | ret u =>
      obtain ⟨v, H', I', rv, n, rfl, h0, h1, q'⟩ := I.after hq
      obtain ⟨t, rfl⟩ := rv
      exact ⟨⟨h0, h1⟩, .int n, H', I'.tok _, ⟨_, rfl⟩, q'⟩
    | next => exact False.elim hq
    | brk => exact False.elim hq
    | cont => exact False.elim hq
/-- truth of o -/
def rBoolO (C : Addr) (sp : Sp) (E : XK) : List V → Hp → VK → Prop := fun xs H Q => ∃ a dx fs, xs = [.ref a] ∧ H a = some (.ins C dx fs) ∧ sp [.ref a] H (fun v H' => ∃ b : Bool, v = .bl b ∧ Q (.bl b) H') E
theorem truthO {A : Around} (hs : PySem.W.findIn X.K (.ref C) "__bool__" = some (some (.ref f))) (hf : PySem.W.isFn X.K (.ref f) = true) (F : FnOk X.prog X.w X.K X.mg X.base CX k f fd ps sp) (hb : Binds X.K fd ps []) (hx : Passes CX X E)
    {pins : List (Addr × Obj)} {σ : L2.St} {H : Hp} {s : Shared} {a dx : Addr} {fs : List (Str × V)} {Q : Bool → Hp → Prop} (I : Inv X pins σ H s) (hr : Room k A) (e0 : Env0 X.prog X.w X.K X.mg X.base A X.stack s H) (ea : H a = some (.ins C dx fs))
    (q : sp [.ref a] H (fun v H' => ∃ b : Bool, v = .bl b ∧ Q b H') E) : wpAny (model X.prog X.w) A (truthy (.ref a)) (fun b s' => ∃ H', Inv X pins σ H' s' ∧ Q b H') X.xe s := by
  obtain ⟨mA, O, _⟩ := ins_get I.hok ea
  obtain ⟨od, J, _⟩ := O.look
  obtain ⟨m, hF⟩ := I.fr
  have hl := F.len _ _ _ _ q
  refine PySem.W.truthy_K hF I.ok.mod.kin J hs hf (wpAny_call (codeAny_mono (F.run A X.stack s H ⟨[.ref a], []⟩ [.ref a] [.ref a] _ E hr e0 (by
    have := hb s [.ref a] I.kIn (by simpa using hl)
    simpa using this) (.cons rfl .nil) q) fun rs s' hq => ?_))
  cases rs with
  | error e => exact hx pins σ H s e s' I hq
  | ok fl =>
    cases fl with
    | ret u =>
      obtain ⟨v, H', I', rv, b, rfl, q'⟩ := I.after hq
      obtain rfl : u = Value.bool b := rv
      exact ⟨H', I', q'⟩
    | next => exact False.elim hq
    | brk => exact False.elim hq
    | cont => exact False.elim hq
end
section
variable {prog : Program} {w : World} {a : Addr}
open PySem.Sem (wp)
theorem boolnew : MeetsIn prog w (Builtin.«bool.__new__» ⟨[.type "bool", .ref a], []⟩) (fun A R s => wpAny (model prog w) A.in1 (truthy (.ref a)) (fun b s' => R (.ok (.ret (.bool b))) s') (fun e s' => R (.error e) s') s) :=
  .of_wp fun A R s h => by
    obtain ⟨hp, g, d, tk, os⟩ := s
    have f1 := F.conv_sub_bool
    repeat (any_goals (first | assumption | (with_reducible refine wpAny_mono h (fun b s' hb => ?_) (fun e s' he => he)) | wp_step))
    all_goals first | exact ⟨_, rfl, hb⟩ | exact hb
end
section
variable {X : Cx} {CX : CXT} {k : Nat} {C f : Addr} {fd : FuncData} {ps : List Str} {sp : Sp} {E : XK}
theorem _root_.L2.Env0.in2 {P : Program} {w : World} {K : PySem.W.Frag} {mg : Str → Option Value} {base : Heap} {A : Around} {outer : List Env} {s : Shared} {H : Hp} (e : Env0 P w K mg base A outer s H) : Env0 P w K mg base A.in1.in1 outer s H := e.in1.in1
/-- bool(o) -/
theorem call_boolO (hs : PySem.W.findIn X.K (.ref C) "__bool__" = some (some (.ref f))) (hf : PySem.W.isFn X.K (.ref f) = true) (G : FnOk X.prog X.w X.K X.mg X.base CX k f fd ps sp) (hr : Room (k + 2) X.A) (hb : Binds X.K fd ps []) (hx : Passes CX X E) :
    CallR X (.type "bool") (rBoolO C sp E) := by
  intro pins s σ H xs us Q I r h
  obtain ⟨a, dx, fs, rfl, ea, q⟩ := h
  obtain ⟨u, rfl, ru⟩ := vals1 r
  obtain rfl : u = Value.ref a := ru
  refine callType_newIn PySem.F.called_bool PySem.F.newNe_bool (PySem.F.typeCall_bool_1 _) (PySem.F.newCall_bool_1 _) (fun obj => PySem.F.args_object_init_2 obj _) PySem.F.entry_bool_new boolnew ?_
  refine wpAny_mono (truthO (Q := fun b H' => Q (.bl b) H') hs hf G hb hx I hr.in1.in1 I.env0.in2 ea q) (fun b s' ⟨H', I', q'⟩ => ?_) fun e s' he => he
  exact ⟨PySem.typeIs_bool _ _, .bl b, H', I', rfl, q'⟩
end
end Ow
set_option Elab.async false
set_option linter.all false
set_option maxRecDepth 100000
set_option maxHeartbeats 1000000
namespace Ow
open PySem PySem.Spec PyProof.Rows L2
/-- an iterator at it over the tuple at t, at its start -/
def TuO (t it : Addr) : HO := .ext fun h => h.IsTupleIter it t 0
theorem tuO_ok {P : Program} {w : World} {H : Hp} {h : Heap} {t it : Addr} (e : h.IsTupleIter it t 0) : ObjOk P w H h it (TuO t it) := by
  obtain ⟨o, e1, e2, e3⟩ := e
  exact ⟨⟨o, e1, e2, e3⟩, ⟨o, e1⟩, fun _ _ ⟨u, b1, b2, b3⟩ k => ⟨u, k _ b1, b2, b3⟩⟩
section
variable {X : Cx} {pins : List (Addr × Obj)} {σ : L2.St} {H : Hp} {s : Shared}
/-- iter(t), t a tuple; the iterator is newer than the def's entry -/
def rIterT (X : Cx) : List V → Hp → VK → Prop := fun xs H Q => ∃ (t : Addr) (zs : List V), xs = [.ref t] ∧ SqT X.K H t zs ∧ ∀ it, H it = none → X.s_0.heap.objs.size ≤ it → Q (.ref it) (upd H it (TuO t it))
theorem call_iterT : CallR X (.builtin "iter") (rIterT X) := by
  intro pins s σ H xs us Q I r h
  obtain ⟨t, zs, rfl, hq, q⟩ := h
  obtain rfl := Vals.ref1 r
  obtain ⟨its, rv, pl, hz⟩ := I.tuple hq
  refine Calls.call_function_entry (by decide +kernel) (by decide +kernel) PySem.W.kdk_entry_iter (PySem.W.kdk_args_iter _) ?_
  unfold Builtin.«iter»
  refine wpAny_bind (m := someArgs "iter" 1 2 _) (wpAny_of_eq (a := [Value.ref t]) (by first | rfl | kernel_rfl!) ?_)
  refine wpAny_bind (m := pyIter (.ref t)) (wpAny_pyIter_tuple (show s.heap.IsTuple t its.toArray from pl) ?_)
  exact wpAny_pure ⟨_, rfl, .ref s.heap.objs.size, _, I.laid (t' := s.toks) (fun b u e => Heap.get?_push_of_some _ e) (Nat.le_refl _) (tuO_ok ⟨_, Heap.get?_push_size _ rfl, rfl, rfl⟩), rfl, q _ (I.hok.fresh (Nat.le_refl _)) I.sz⟩
/-- a tracked thing that is new is tracked no more -/
theorem forget {a : Addr} {φ : Heap → Prop} (I : Inv X pins σ H s) (ha : H a = some (.ext φ)) (n0 : X.s_0.heap.get? a = none) : Inv X pins σ (L2.delH H a) s := by
  have ne : ∀ {b : Addr} {u : HO}, H b = some u → (∀ ψ, u ≠ .ext ψ) → b ≠ a := fun {b u} e n q => by
    rw [q, ha] at e
    exact n φ (Option.some.inj e).symm
  have nn : ∀ {b : Addr}, H b = none → b ≠ a := fun {b} e q => by
    rw [q, ha] at e
    cases e
  have old : ∀ {b : Addr} {o : Obj}, X.s_0.heap.get? b = some o → b ≠ a := fun {b o} e q => by
    rw [q, n0] at e
    cases e
  refine ⟨I.ok, I.os, I.bare, ⟨I.base.keep, I.base.slot, fun b o e n hx => ?_, I.base.there, fun b xs e => ?_, fun b o u e => ?_, fun b ps e => ?_⟩, I.loc, I.cell, ?_, fun x c e => ?_, fun p hp => ?_, fun b u e => ?_, I.len⟩
  · rw [delH_ne (old e)]
    exact I.base.free b o e n hx
  · have q := I.base.tups b xs e
    rw [delH_ne (ne q (fun _ z => nomatch z))]
    exact q
  · have q := I.base.frzs b o u e
    rw [delH_ne (ne q (fun _ z => nomatch z))]
    exact q
  · obtain ⟨more, q⟩ := I.base.tbls b ps e
    exact ⟨more, by rw [delH_ne (ne q (fun _ z => nomatch z))]; exact q⟩
  · rw [delH_ne (nn I.free)]
    exact I.free
  · rw [delH_ne (nn (I.freeC x c e))]
    exact I.freeC x c e
  · obtain ⟨p1, p2, p3⟩ := I.pin p hp
    exact ⟨p1, by rw [delH_ne (nn p2)]; exact p2, p3⟩
  · have hb : b ≠ a := fun q => by
      rw [q, delH_same] at e
      cases e
    rw [delH_ne hb] at e
    refine (I.hok b u e).stay (fun _ _ _ r => r) (fun c r => ?_) fun c xs r => ?_
    · rw [delH_ne (ne r (fun _ z => nomatch z))]
      exact r
    · rw [delH_ne (ne r (fun _ z => nomatch z))]
      exact r
end
/-- what is asked of the own __iter__'s def: at the object at a, with the heap H, it gives a new iterator over the tuple at tp -/
def Gives1 (X : Cx) (k : Nat) (f : Addr) (a tp : Addr) (H : Hp) : Prop := ∀ (s : Shared), Env0 X.prog X.w X.K X.mg X.base X.A X.stack s H → Room k X.A → X.K.In s.heap →
  codeAny (model X.prog X.w) X.A (.call (.ref f) ⟨[.ref a], []⟩) (CR CX0 X.stack X.prog X.w H s (fun v H' => ∃ it, v = .ref it ∧ H it = none ∧ s.heap.objs.size ≤ it ∧ H' = upd H it (TuO tp it)) E0) s
def iOwn (X : Cx) (C : Addr) (k : Nat) (f : Addr) (te : TE) : TI := fun σ H R => te σ H fun x H1 => ∃ a dx fs tp ws, x = .ref a ∧ H1 a = some (.ins C dx fs) ∧ SqT X.K H1 tp ws ∧ Gives1 X k f a tp H1 ∧ R (Itt X.K tp) H1
theorem pi_own {X : Cx} {C f : Addr} {k : Nat} {tg e : Expr} {te : TE} (he : PE X e te) (hs : PySem.W.findIn X.K (.ref C) "__iter__" = some (some (.ref f))) (hf : PySem.W.isFn X.K (.ref f) = true) (hr : Room k X.A) : PI X tg e (iOwn X C k f te) := by
  refine ⟨fun pins s σ H R I h => ?_⟩
  refine thn (he.run pins s σ H _ I h) fun v s1 ⟨x, H1, I1, r1, a, dx, fs, tp, ws, ex, ea, ht, hG, q⟩ => ?_
  subst ex
  obtain rfl : v = Value.ref a := r1
  obtain ⟨mA, O, _⟩ := ins_get I1.hok ea
  obtain ⟨od, J, _⟩ := O.look
  obtain ⟨m, hF⟩ := I1.fr
  refine PySem.W.owit_iter hF I1.ok.mod.kin J hs hf (wpAny_call (codeAny_mono (hG s1 I1.env0 hr I1.kIn) fun rs s' hq => ?_))
  cases rs with
  | error e => exact (show False from hq).elim
  | ok fl =>
    cases fl with
    | ret u =>
      obtain ⟨v, H', I', rv, it, rfl, hn, hz, rfl⟩ := I1.after hq
      obtain rfl : u = Value.ref it := rv
      have ho : ObjOk X.prog X.w (upd H1 it (TuO tp it)) s'.heap it (TuO tp it) := I'.hok it _ upd_same
      have st : s'.heap.IsTupleIter it tp 0 := ho.1
      have n0 : X.s_0.heap.get? it = none := by
        cases e : X.s_0.heap.get? it with
        | none => rfl
        | some o => exact absurd (Heap.lt_size e) (Nat.not_lt.mpr (Nat.le_trans I1.sz hz))
      have J' := forget I' upd_same n0
      rw [delH_new hn] at J'
      unfold PySem.W.OwitIt
      have hT : s'.TypeIs (.ref it) "tuple_iterator" := let ⟨o, e1, e2, _⟩ := st; ⟨o, e1, e2⟩
      refine wpAny_specialOf hT PySem.F.slot_tuple_iterator_next.lookup ?_
      refine ⟨it, [it], _, _, H1, rfl, J', turn_tuple tp _, st, fun b hb => ?_, q⟩
      have e : b = it := by simpa using hb
      subst e
      refine ⟨hn, Nat.ne_of_gt (Nat.lt_of_lt_of_le I1.lt hz), I1.nofs hz, .inr (Nat.le_trans I1.sz hz), fun x c e z => ?_, fun p hp z => ?_⟩
      · obtain ⟨v, q⟩ := I1.cell x c e
        exact absurd (Nat.lt_of_lt_of_le q.lt (by rw [z]; exact hz)) (Nat.lt_irrefl _)
      · exact absurd (Nat.lt_of_lt_of_le (Heap.lt_size (I1.pin p hp).1) (by rw [z]; exact hz)) (Nat.lt_irrefl _)
    | next => exact False.elim hq
    | brk => exact False.elim hq
    | cont => exact False.elim hq
end Ow
set_option Elab.async false
set_option linter.all false
set_option maxRecDepth 100000
set_option maxHeartbeats 1000000
/-! Lists and tuples of texts, compared. -/
namespace K8
open PySem PySem.Spec PyProof.Rows L2
theorem fix_ok {x : Str} (h : isFixB x = true) : PyData.strOk x = true := by
  unfold isFixB at h
  obtain ⟨_, h⟩ := Bool.and_eq_true_iff.mp h
  obtain ⟨_, h⟩ := Bool.and_eq_true_iff.mp h
  unfold PyData.strOk
  rw [← Array.all_toList, List.all_eq_true]
  intro c hc
  have := List.all_eq_true.mp h c hc
  unfold letB at this
  obtain ⟨_, h2⟩ := Bool.and_eq_true_iff.mp this
  have := of_decide_eq_true h2
  exact decide_eq_true (by omega)
theorem canLay_s : ∀ ss : List Str, (∀ x ∈ ss, PyData.strOk x = true) → PyData.canLayAll0 (ss.map PyData.str) = true
  | [], _ => by simp only [List.map_nil, PyData.canLayAll0]
  | x :: r, h => by
    simp only [List.map_cons, PyData.canLayAll0, PyData.canLay0, Bool.and_eq_true]
    exact ⟨h x (List.mem_cons_self ..), canLay_s r fun y hy => h y (List.mem_cons_of_mem _ hy)⟩
theorem depth_s : ∀ ss : List Str, PyData.depthAll (ss.map PyData.str) = 0
  | [] => by simp only [List.map_nil, PyData.depthAll]
  | x :: r => by simp [PyData.depthAll, PyData.depth, depth_s r]
theorem shapedL {ss : List Str} (h : ∀ x ∈ ss, PyData.strOk x = true) : SeqAt.shaped (.list (ss.map PyData.str)) = true := by
  simp [SeqAt.shaped, PyData.canLay0, PyData.depth, canLay_s ss h, depth_s]
theorem shapedT {ss : List Str} (h : ∀ x ∈ ss, PyData.strOk x = true) : SeqAt.shaped (.tuple (ss.map PyData.str)) = true := by
  simp [SeqAt.shaped, PyData.canLay0, PyData.depth, canLay_s ss h, depth_s]
theorem dp_s {K : PySem.W.Frag} {H : Hp} : ∀ ss : List Str, DpAll K H (ss.map V.str) (ss.map PyData.str)
  | [] => .nil
  | x :: r => .cons (.str x) (dp_s r)
theorem eqvAll_s : ∀ xs ys : List Str, PyData.eqvAll (xs.map PyData.str) (ys.map PyData.str) = decide (xs = ys)
  | [], [] => rfl
  | [], _ :: _ => rfl
  | _ :: _, [] => rfl
  | x :: xs, y :: ys => by
    simp only [List.map_cons, PyData.eqvAll, PyData.eqv, eqvAll_s xs ys]
    by_cases h : x = y
    · subst h
      simp
    · have : (x == y) = false := beq_false_of_ne h
      rw [this]
      simp [h]
theorem eqvT (xs ys : List Str) : PyData.eqv (.tuple (xs.map PyData.str)) (.tuple (ys.map PyData.str)) = decide (xs = ys) := eqvAll_s xs ys
theorem eqvL (xs ys : List Str) : PyData.eqv (.list (xs.map PyData.str)) (.list (ys.map PyData.str)) = decide (xs = ys) := eqvAll_s xs ys
/-- == and != of two tuples of fixes -/
theorem eqT {K : PySem.W.Frag} {H : Hp} {Q : VK} {a b : Addr} {xs ys : List Str} (ha : SqT K H a (xs.map V.str)) (hb : SqT K H b (ys.map V.str)) (fx : ∀ x ∈ xs, PyData.strOk x = true) (fy : ∀ x ∈ ys, PyData.strOk x = true) (q : Q (.bl (decide (xs = ys))) H) : rEqD K (.ref a) (.ref b) H Q :=
  ⟨_, _, .tup ha (dp_s xs), .tup hb (dp_s ys), shapedT fx, shapedT fy, by rw [eqvT]; exact q⟩
theorem neT {K : PySem.W.Frag} {H : Hp} {Q : VK} {a b : Addr} {xs ys : List Str} (ha : SqT K H a (xs.map V.str)) (hb : SqT K H b (ys.map V.str)) (fx : ∀ x ∈ xs, PyData.strOk x = true) (fy : ∀ x ∈ ys, PyData.strOk x = true) (q : Q (.bl (!decide (xs = ys))) H) : rNeD K (.ref a) (.ref b) H Q :=
  ⟨_, _, .tup ha (dp_s xs), .tup hb (dp_s ys), shapedT fx, shapedT fy, by rw [eqvT]; exact q⟩
theorem eqL {K : PySem.W.Frag} {H : Hp} {Q : VK} {a b : Addr} {xs ys : List Str} (ha : SqL K H a (xs.map V.str)) (hb : SqL K H b (ys.map V.str)) (fx : ∀ x ∈ xs, PyData.strOk x = true) (fy : ∀ x ∈ ys, PyData.strOk x = true) (q : Q (.bl (decide (xs = ys))) H) : rEqD K (.ref a) (.ref b) H Q :=
  ⟨_, _, .lst ha (dp_s xs), .lst hb (dp_s ys), shapedL fx, shapedL fy, by rw [eqvL]; exact q⟩
theorem neL {K : PySem.W.Frag} {H : Hp} {Q : VK} {a b : Addr} {xs ys : List Str} (ha : SqL K H a (xs.map V.str)) (hb : SqL K H b (ys.map V.str)) (fx : ∀ x ∈ xs, PyData.strOk x = true) (fy : ∀ x ∈ ys, PyData.strOk x = true) (q : Q (.bl (!decide (xs = ys))) H) : rNeD K (.ref a) (.ref b) H Q :=
  ⟨_, _, .lst ha (dp_s xs), .lst hb (dp_s ys), shapedL fx, shapedL fy, by rw [eqvL]; exact q⟩
end K8
set_option Elab.async false
set_option linter.all false
set_option maxRecDepth 100000
set_option maxHeartbeats 1000000
/-! Lot: str, ==, in, len, iter. -/
namespace K8
open PySem PySem.Spec PyProof.Rows L2 RV EV He EF EI
section
variable {P : Program} {w : World} {K : PySem.W.Frag} {mg : Str → Option Value} {base : Heap}
theorem lm (T : KF P w K mg base) (q : Str × Nat) (h : q ∈ lotN) : Meth K (gO K) q.1 (lAd K q.1) := (T.lot q h).1
theorem sc1s (i : Nat) (h : (defScope (lSt i)).kind = .function := by rfl) : True := trivial
/-! __len__ -/
def spLenL (K : PySem.W.Frag) : Sp := fun vs H Q _ => ∃ p ns, vs = [.ref p] ∧ IsLot K H p ns ∧ Q (.int ns.length) H
theorem scLen : FnScope ["self"] ["self"] (defScope (lSt 7)) := ⟨rfl, rfl, rfl, by decide +kernel, rfl, by decide +kernel, by decide +kernel⟩
theorem ok_lenL (T : KF P w K mg base) {fd : FuncData} (F : FunD K "__len__" "Lot.__len__" (defArgs (lSt 7)) (defBody (lSt 7)) (defScope (lSt 7)) [] [] (lAd K "__len__") fd) : FnOk P w K mg base CX0 1 (lAd K "__len__") fd ["self"] (spLenL K) := by
  refine F.ok scLen (fun vs H Q E h => ?_) (fun cdv A outer s H vs Q E hr h => ?_)
  · obtain ⟨p, ns, rfl, _⟩ := h
    rfl
  · obtain ⟨p, ns, rfl, ⟨dx, tp, O⟩, k⟩ := h
    refine ⟨_, PSs.nox (pss_one (ps_ret (pe_callB call_len_seq (by rfl) (T.fr "len" (by decide)) PySem.boot_len (pa_cons (pe_fld (pv 0) rfl) pa_nil)))), ?_⟩
    refine ⟨_, rfl, p, gO K, dx, _, _, rfl, O.ob, T.clo, T.noF, rfl, tp, _, rfl, .inr (SqT.of O.ps), ?_⟩
    rw [List.length_map]
    exact k
/-! __iter__ -/
def spIterL (K : PySem.W.Frag) (z : Nat) : Sp := fun vs H Q _ => ∃ p ns dx tp, vs = [.ref p] ∧ LO K H p dx tp ns ∧ ∀ it, H it = none → z ≤ it → Q (.ref it) (upd H it (Ow.TuO tp it))
/-! __contains__ -/
theorem scCo : FnScope ["self", "x"] ["self", "x"] (defScope (lSt 6)) := ⟨rfl, rfl, rfl, by decide +kernel, rfl, by decide +kernel, by decide +kernel⟩
def spCoL (K : PySem.W.Frag) : Sp := fun vs H Q _ => ∃ p ns v, vs = [.ref p, v] ∧ IsLot K H p ns ∧ ((∃ x, v = .str x ∧ isFixB x = true ∧ ∀ H', Same H H' → Q (.bl (decide (x ∈ ns))) H') ∨ (NoFix K H v ∧ ∀ H', Same H H' → Q (.bl false) H'))
theorem ok_coL (T : KF P w K mg base) {fd : FuncData} (F : FunD K "__contains__" "Lot.__contains__" (defArgs (lSt 6)) (defBody (lSt 6)) (defScope (lSt 6)) [] [] (lAd K "__contains__") fd) : FnOk P w K mg base CX0 2 (lAd K "__contains__") fd ["self", "x"] (spCoL K) := by
  obtain ⟨fdF, FF, gF⟩ := T.tops ("is_fix", 6) (by decide)
  have GF : FnOk P w K mg base CX0 1 (ga K "is_fix") fdF ["value"] (spFix K) := ok_fix FF (blt2 T)
  have bF : L2.Binds K fdF ["value"] [] := FunD.bindsN FF fun _ _ _ _ _ _ us hl => match us, hl with | [_], _ => rfl
  refine F.ok scCo (fun vs H Q E h => ?_) (fun cdv A outer s H vs Q E hr h => ?_)
  · obtain ⟨p, ns, v, rfl, _⟩ := h
    rfl
  · obtain ⟨p, ns, v, rfl, ⟨dx, tp, O⟩, k⟩ := h
    refine ⟨_, PSs.nox (pss_one (ps_ret (pe_and (pe_call (E := E0) GF hr (by rfl) gF FF.kp bF .nil pass0 (pa_cons (pv 1) pa_nil)) (pe_one (pe_cmpR op_in_seq (pv 1) (pe_fld (pv 0) rfl) rfl))))), ?_⟩
    refine ⟨_, rfl, ?_⟩
    unfold tNil
    show spFix K [v] H _ _
    rcases k with ⟨x, rfl, hx, k⟩ | ⟨nf, k⟩
    · refine sp_fix (.inl ⟨x, rfl, hx⟩) fun H' s' b hb => ⟨b, rfl, if_posB (by rw [hb]; exact hx) ?_⟩
      have O' := O.same s'
      refine ⟨_, rfl, _, rfl, p, gO K, dx, _, _, rfl, O'.ob, T.clo, T.noF, rfl, tp, _, rfl, .inr (SqT.of O'.ps), rfl, flat_strs ns, ?_⟩
      show Q (.bl (inV (.str x) (ns.map V.str))) H'
      rw [inV_str]
      exact k H' s'
    · refine sp_fix (.inr nf) fun H' s' b hb => ⟨b, rfl, if_negB ?_ (k H' s')⟩
      rw [hb]
      rcases nf with ⟨x, rfl, _, h⟩ | ⟨t, ht, hk⟩
      · exact h
      · cases v with
        | str x =>
          have e : t = .type "str" := by
            cases ht with
            | base h => cases h; rfl
          subst e
          exact absurd hk (by rw [kit_ty (by decide +kernel : kitB "str" "str" = some true)]; intro z; cases z)
        | _ => rfl
/-! __iter__ -/
theorem scIt : FnScope ["self"] ["self"] (defScope (lSt 8)) := ⟨rfl, rfl, rfl, by decide +kernel, rfl, by decide +kernel, by decide +kernel⟩
theorem gives_iterL {X : Cx} (T : KF X.prog X.w X.K X.mg X.base) {H : Hp} {p dx tp : Addr} {ns : List Str} (O : LO X.K H p dx tp ns) : Ow.Gives1 X 1 (lAd X.K "__iter__") p tp H := by
  obtain ⟨_, fd, F⟩ := T.lot ("__iter__", 8) (by decide)
  have b := FunD.bindsA (ps := ["self"]) F fun _ _ _ _ _ _ us hl => match us, hl with | [_], _ => rfl
  obtain ⟨oc, od, dV, kV, doc, pm, an, cdv, ct, osl, rfl, lk, hcd, hD, hK⟩ := F.ex
  intro s e0 hr hK
  refine LamX.run_ofS (N := ["self"]) (ps := ["self"]) (us := [.ref p]) (vs := [.ref p]) lk hcd scIt hr e0 (b s [.ref p] rfl) (.cons rfl .nil) rfl fun hr' => ?_
  refine ⟨_, PSs.nox (pss_one (ps_ret (pe_callB Ow.call_iterT (by rfl) (T.fr "iter" (by decide)) (by decide +kernel) (pa_cons (pe_fld (pv 0) rfl) pa_nil)))), ?_⟩
  exact ⟨_, rfl, p, _, dx, _, _, rfl, O.ob, T.clo, T.noF, rfl, tp, _, rfl, SqT.of O.ps, fun it n1 n2 => ⟨it, rfl, n1, n2, rfl⟩⟩
end
end K8
set_option Elab.async false
set_option linter.all false
set_option maxRecDepth 100000
set_option maxHeartbeats 4000000
/-! Deeds: own lines, own days. -/
namespace K8
open PySem PySem.Spec PyProof.Rows L2 RV EV He EF EI LamX
def isIV (v : V) : Bool := match v with
  | .int _ => true
  | _ => false
def isSV (v : V) : Bool := match v with
  | .str _ => true
  | _ => false
def Kd.nl (k : Kd) (ns : List V) : List V := match k with
  | .redo | .renew | .shut => []
  | _ => ns.filter isIV
def Kd.ol (k : Kd) (ns : List V) : List V := match k with
  | .fix | .unfix | .cut => [.int 0]
  | .try_ | .probe | .meet_ => ns.take 1
  | .redo | .renew | .shut => []
  | _ => ns.filter isIV
def Kd.od (k : Kd) (ns : List V) : List V := match k with
  | .redo | .renew | .shut => ns
  | _ => []
def spGv (K : PySem.W.Frag) (k : Kd) (f : Kd → List V → List V) : Sp := fun vs H Q _ => ∃ a ns up, vs = [.ref a] ∧ GD K H a k ns up ∧ ∀ t H', Same H H' → H' t = some (.tup (f k ns)) → Q (.ref t) H'
theorem gd_fld {K : PySem.W.Frag} {H : Hp} {a : Addr} {k : Kd} {ns : List V} {up : V} (h : GD K H a k ns up) {m : Str} (hm : m ∉ fieldsL) : ∃ dx fs, H a = some (.ins (ga K k.cls) dx fs) ∧ fs.lookup m = none := by
  obtain ⟨dx, fs, ha, hs⟩ := h.at_
  exact ⟨dx, fs, ha, lookup_no fun p hp e => hm (by rw [← e]; exact shp_fields hs p hp)⟩
section
variable {P : Program} {w : World} {K : PySem.W.Frag} {mg : Str → Option Value} {base : Heap} {σ : L2.St} {H : Hp} {te : TE} {v : V}
/-- isinstance(v, int), isinstance(v, str) -/
theorem t_isi {n : String} {b : Bool} (h : ER te σ H (IsV v)) (hv : ∀ H', ∃ t, TyX K H' v (.type t) ∧ PySem.W.kitOne K (.type t) (.type n) = some b) : TestR (tB (tCB (rIsi K) (tCons te (tCons (tC (V.ty n)) tNil)))) σ H b := fun H1 s1 F k => h H1 s1 _ fun u H2 s2 e => by
  obtain rfl := e
  obtain ⟨t, ty, kt⟩ := hv H2
  exact ⟨_, .ty n, _, _, b, rfl, .ty n, ty, kt, b, rfl, k H2 s2⟩
theorem kit_int (h : TxW v) (H' : Hp) : ∃ t, TyX K H' v (.type t) ∧ PySem.W.kitOne K (.type t) (.type "int") = some (isIV v) := by
  rcases h with ⟨x, rfl, _⟩ | ⟨i, rfl, _⟩
  · exact ⟨"str", .base (.str x), kit_ty (show kitB "str" "int" = some false by decide +kernel)⟩
  · exact ⟨"int", .base (.int i), kit_ty (show kitB "int" "int" = some true by decide +kernel)⟩
theorem kit_st (h : TxW v) (H' : Hp) : ∃ t, TyX K H' v (.type t) ∧ PySem.W.kitOne K (.type t) (.type "str") = some (isSV v) := by
  rcases h with ⟨x, rfl, _⟩ | ⟨i, rfl, _⟩
  · exact ⟨"str", .base (.str x), kit_ty (show kitB "str" "str" = some true by decide +kernel)⟩
  · exact ⟨"int", .base (.int i), kit_ty (show kitB "int" "str" = some false by decide +kernel)⟩
/-- self.named() -/
theorem er_named (k : Kd) {E : XK} {ns : List V} {up : V} (h : ER te σ H (IsG K k ns up)) : ER (tMeth (ga K k.cls) "named" (spNm K k) [] E te tNil) σ H (AtT ns) := fun H1 s1 F q => h H1 s1 _ fun u H2 s2 ⟨a, e, hd⟩ => by
  obtain rfl := e
  obtain ⟨dx, fs, ha, hl⟩ := gd_fld hd (m := "named") (by decide)
  exact ⟨a, dx, fs, rfl, ha, hl, a, ns, up, rfl, hd.at_, fun t H3 s3 ht => q _ H3 (s2.trans s3) ⟨t, rfl, ht⟩⟩
theorem er_tupl {xs : List V} (h : ER te σ H (AtL xs)) : ER (tCB (rTupL K) (tCons te tNil)) σ H (AtT xs) := h.cb fun u H1 F s ⟨l, e, hl⟩ q => by
  obtain rfl := e
  exact ⟨l, xs, rfl, .inl ⟨SqL.of hl, fun p np => q _ _ (same_new np) ⟨p, rfl, upd_same⟩⟩⟩
theorem er_gv {k : Kd} {f : Kd → List V → List V} {m : Str} (hm : m ∉ fieldsL) {E : XK} {ns : List V} {up : V} (h : ER te σ H (IsG K k ns up)) : ER (tMeth (ga K k.cls) m (spGv K k f) [] E te tNil) σ H (AtT (f k ns)) := fun H1 s1 F q => h H1 s1 _ fun u H2 s2 ⟨a, e, hd⟩ => by
  obtain rfl := e
  obtain ⟨dx, fs, ha, hl⟩ := gd_fld hd hm
  exact ⟨a, dx, fs, rfl, ha, hl, a, ns, up, rfl, hd, fun t H3 s3 ht => q _ H3 (s2.trans s3) ⟨t, rfl, ht⟩⟩
theorem scNl : FnScope ["self", "part"] ["self"] (defScope (inClass (top 37) 8)) := ⟨rfl, rfl, rfl, by decide +kernel, rfl, by decide +kernel, by decide +kernel⟩
theorem scNlD : FnScope ["self"] ["self"] (defScope (inClass (top 42) 1)) := ⟨rfl, rfl, rfl, by decide +kernel, rfl, by decide +kernel, by decide +kernel⟩
theorem nl_deed (T : KF P w K mg base) (k : Kd) (hk : ((k.cls, "Deed", 37, 8) : Str × Str × Nat × Nat) ∈ nlN) (e : ∀ ns, k.nl ns = ns.filter isIV) : KMt P w K mg base CX0 3 k "named_lines" (spGv K k Kd.nl) := by
  obtain ⟨m, fd, F⟩ := T.nlm _ hk
  obtain ⟨mN, fN, GN, bN⟩ := nm_k (w := w) T k
  have cl := kcls T k
  refine ⟨m, fd, F.ok (N := ["self", "part"]) scNl (fun vs H Q E h => ?_) (fun cdv A outer s H vs Q E hr h => ?_), FunD.bindsN F fun _ _ _ _ _ _ us hl => match us, hl with | [_], _ => rfl⟩
  · obtain ⟨a, ns, up, rfl, _⟩ := h
    rfl
  · obtain ⟨a, ns, up, rfl, hd, q⟩ := h
    refine ⟨_, PSs.nox (pss_one (ps_ret (pe_callTy call_tuple_of (by rfl) (T.fr "tuple" (by decide)) boot_T (pa_cons
      (pe_lc (own := [("part", 1)]) (g := gName 1) (tt := tB (tCB (rIsi K) (tCons (tVar 1) (tCons (tC (V.ty "int")) tNil)))) (te := tVar 1) rfl scNl.nd (pi_tup (pe_meth0 (E := E0) (pv 0) cl mN GN (hr.mono (by decide)) bN .nil pass0)) (blkOk_by (N := ["self", "part"]) (sc := defScope (inClass (top 37) 8)) (by decide +kernel))
        (fun _ _ _ _ _ => pg_name (i := 1) scNl.nd rfl (.inl rfl)) (fun _ _ _ _ _ => pts_one (pt_val (pe_callB call_isi (by rfl) (T.fr "isinstance" (by decide)) PyProof.Rows.boot_isinstance (pa_cons (pv 1) (pa_cons (pe_bltn (v := .ty "int") (by rfl) (T.fr "int" (by decide)) boot_T rfl) pa_nil))))) (fun _ _ _ _ _ => pv 1)) pa_nil)))), ?_⟩
    have hs : L2.start ["self", "part"] [.ref a] = [some (.ref a), none] := rfl
    rw [hs]
    obtain ⟨tw, ln, _⟩ := dok_tx hd.ok
    have nm : ER (tMeth (ga K k.cls) "named" (spNm K k) [] E0 (tVar 0) tNil) [some (.ref a), none] H (AtT (ns.map id)) := by
      rw [List.map_id]
      exact er_named k (er_var (i := 0) rfl stb_g ⟨a, rfl, hd⟩)
    have lc := er_lct (K := K) (σ := [some (.ref a), none]) (H := H) (i := 1) (p := isIV) (tt := tB (tCB (rIsi K) (tCons (tVar 1) (tCons (tC (V.ty "int")) tNil)))) (te := tVar 1) (enc := id) (out := id) (ns := ns) nm (by omega) (fun _ => rfl) (fun z hz G s => t_isi (K := K) (er_v (i := 1) rfl) fun H' => kit_int (tw z hz) H') (fun z hz _ G s => er_v (i := 1) rfl)
    rw [List.map_id] at lc
    refine (er_tupl (K := K) lc).go fun u H1 s1 ⟨t, e1, ht⟩ => ?_
    obtain rfl := e1
    exact q t H1 s1 (by rw [e]; exact ht)
theorem nl_day (T : KF P w K mg base) (k : Kd) (hk : ((k.cls, "OfDay", 42, 1) : Str × Str × Nat × Nat) ∈ nlN) (e : ∀ ns, k.nl ns = []) : KMt P w K mg base CX0 3 k "named_lines" (spGv K k Kd.nl) := by
  obtain ⟨m, fd, F⟩ := T.nlm _ hk
  refine ⟨m, fd, F.ok (N := ["self"]) scNlD (fun vs H Q E h => ?_) (fun cdv A outer s H vs Q E hr h => ?_), FunD.bindsN F fun _ _ _ _ _ _ us hl => match us, hl with | [_], _ => rfl⟩
  · obtain ⟨a, ns, up, rfl, _⟩ := h
    rfl
  · obtain ⟨a, ns, up, rfl, hd, q⟩ := h
    exact ⟨_, PSs.nox (pss_one (ps_ret (pe_tup pa_nil))), by show 0 ≤ sizeLine; rw [sizeLine_eq]; decide, fun t nt => q t _ (same_new nt) (by rw [e]; exact upd_same)⟩
/-- own_lines -/
theorem scOlM : FnScope ["self"] ["self"] (defScope (inClass (top 38) 0)) := ⟨rfl, rfl, rfl, by decide +kernel, rfl, by decide +kernel, by decide +kernel⟩
theorem scOlT : FnScope ["self"] ["self"] (defScope (inClass (top 40) 1)) := ⟨rfl, rfl, rfl, by decide +kernel, rfl, by decide +kernel, by decide +kernel⟩
theorem scOlD : FnScope ["self"] ["self"] (defScope (inClass (top 37) 9)) := ⟨rfl, rfl, rfl, by decide +kernel, rfl, by decide +kernel, by decide +kernel⟩
theorem ol_main (T : KF P w K mg base) (k : Kd) (hk : ((k.cls, "OnMain", 38, 0) : Str × Str × Nat × Nat) ∈ olN) (e : ∀ ns, k.ol ns = [.int 0]) : KMt P w K mg base CX0 4 k "own_lines" (spGv K k Kd.ol) := by
  obtain ⟨m, fd, F⟩ := T.olm _ hk
  refine ⟨m, fd, F.ok (N := ["self"]) scOlM (fun vs H Q E h => ?_) (fun cdv A outer s H vs Q E hr h => ?_), FunD.bindsN F fun _ _ _ _ _ _ us hl => match us, hl with | [_], _ => rfl⟩
  · obtain ⟨a, ns, up, rfl, _⟩ := h
    rfl
  · obtain ⟨a, ns, up, rfl, hd, q⟩ := h
    exact ⟨_, PSs.nox (pss_one (ps_ret (pe_tup (pa_cons pe_int pa_nil)))), by show 1 ≤ sizeLine; rw [sizeLine_eq]; decide, fun t nt => q t _ (same_new nt) (by rw [e]; exact upd_same)⟩
theorem ol_two (T : KF P w K mg base) (k : Kd) (hk : ((k.cls, "OfTwo", 40, 1) : Str × Str × Nat × Nat) ∈ olN) (no : NoAttr K (ga K k.cls) "line") (hs : k.shp = .pl ["line", "mate"]) (e : ∀ ns, k.ol ns = ns.take 1) : KMt P w K mg base CX0 4 k "own_lines" (spGv K k Kd.ol) := by
  obtain ⟨m, fd, F⟩ := T.olm _ hk
  refine ⟨m, fd, F.ok (N := ["self"]) scOlT (fun vs H Q E h => ?_) (fun cdv A outer s H vs Q E hr h => ?_), FunD.bindsN F fun _ _ _ _ _ _ us hl => match us, hl with | [_], _ => rfl⟩
  · obtain ⟨a, ns, up, rfl, _⟩ := h
    rfl
  · obtain ⟨a, ns, up, rfl, hd, q⟩ := h
    obtain ⟨dx, fs, ha, sh⟩ := hd.at_
    rw [hs] at sh
    obtain ⟨_, hl, rfl⟩ := sh
    obtain ⟨v0, v1, rfl⟩ : ∃ v0 v1, ns = [v0, v1] := by
      match ns, hl with
      | [v0, v1], _ => exact ⟨_, _, rfl⟩
    exact ⟨_, PSs.nox (pss_one (ps_ret (pe_tup (pa_cons (pe_fld (pv 0) rfl) pa_nil)))), _, rfl, a, _, dx, _, _, rfl, ha, kcls T k, no, rfl, by show 1 ≤ sizeLine; rw [sizeLine_eq]; decide, fun t nt => q t _ (same_new nt) (by rw [e]; exact upd_same)⟩
theorem ol_deed (T : KF P w K mg base) (k : Kd) (hk : ((k.cls, "Deed", 37, 9) : Str × Str × Nat × Nat) ∈ olN) (N : KMt P w K mg base CX0 3 k "named_lines" (spGv K k Kd.nl)) (e : ∀ ns, k.ol ns = k.nl ns) : KMt P w K mg base CX0 4 k "own_lines" (spGv K k Kd.ol) := by
  obtain ⟨m, fd, F⟩ := T.olm _ hk
  obtain ⟨mN, fN, GN, bN⟩ := N
  refine ⟨m, fd, F.ok (N := ["self"]) scOlD (fun vs H Q E h => ?_) (fun cdv A outer s H vs Q E hr h => ?_), FunD.bindsN F fun _ _ _ _ _ _ us hl => match us, hl with | [_], _ => rfl⟩
  · obtain ⟨a, ns, up, rfl, _⟩ := h
    rfl
  · obtain ⟨a, ns, up, rfl, hd, q⟩ := h
    refine ⟨_, PSs.nox (pss_one (ps_ret (pe_meth0 (E := E0) (pv 0) (kcls T k) mN GN (hr.mono (by decide)) bN .nil pass0))), ?_⟩
    refine (er_gv (K := K) (f := Kd.nl) (m := "named_lines") (by decide) (er_var (i := 0) rfl stb_g ⟨a, rfl, hd⟩)).go fun u H1 s1 ⟨t, e1, ht⟩ => ?_
    obtain rfl := e1
    exact q t H1 s1 (by rw [e]; exact ht)
theorem ol_k (T : KF P w K mg base) (k : Kd) : KMt P w K mg base CX0 4 k "own_lines" (spGv K k Kd.ol) := by
  cases k
  case fix => exact ol_main T .fix (by decide) fun _ => rfl
  case unfix => exact ol_main T .unfix (by decide) fun _ => rfl
  case cut => exact ol_main T .cut (by decide) fun _ => rfl
  case try_ => exact ol_two T .try_ (by decide) (T.no ("Try", "line") (by decide)) rfl fun _ => rfl
  case probe => exact ol_two T .probe (by decide) (T.no ("Probe", "line") (by decide)) rfl fun _ => rfl
  case meet_ => exact ol_two T .meet_ (by decide) (T.no ("Meet", "line") (by decide)) rfl fun _ => rfl
  case redo => exact ol_deed T .redo (by decide) (nl_day T .redo (by decide) fun _ => rfl) fun _ => rfl
  case renew => exact ol_deed T .renew (by decide) (nl_day T .renew (by decide) fun _ => rfl) fun _ => rfl
  case shut => exact ol_deed T .shut (by decide) (nl_day T .shut (by decide) fun _ => rfl) fun _ => rfl
  case carry => exact ol_deed T .carry (by decide) (nl_deed T .carry (by decide) fun _ => rfl) fun _ => rfl
  case drop => exact ol_deed T .drop (by decide) (nl_deed T .drop (by decide) fun _ => rfl) fun _ => rfl
  case merge => exact ol_deed T .merge (by decide) (nl_deed T .merge (by decide) fun _ => rfl) fun _ => rfl
  case end_ => exact ol_deed T .end_ (by decide) (nl_deed T .end_ (by decide) fun _ => rfl) fun _ => rfl
  case offer => exact ol_deed T .offer (by decide) (nl_deed T .offer (by decide) fun _ => rfl) fun _ => rfl
  case live => exact ol_deed T .live (by decide) (nl_deed T .live (by decide) fun _ => rfl) fun _ => rfl
  case down => exact ol_deed T .down (by decide) (nl_deed T .down (by decide) fun _ => rfl) fun _ => rfl
  case day => exact ol_deed T .day (by decide) (nl_deed T .day (by decide) fun _ => rfl) fun _ => rfl
  case rise => exact ol_deed T .rise (by decide) (nl_deed T .rise (by decide) fun _ => rfl) fun _ => rfl
  case night => exact ol_deed T .night (by decide) (nl_deed T .night (by decide) fun _ => rfl) fun _ => rfl
/-- own_days -/
theorem scOdD : FnScope ["self"] ["self"] (defScope (inClass (top 37) 10)) := ⟨rfl, rfl, rfl, by decide +kernel, rfl, by decide +kernel, by decide +kernel⟩
theorem scOdY : FnScope ["self"] ["self"] (defScope (inClass (top 42) 2)) := ⟨rfl, rfl, rfl, by decide +kernel, rfl, by decide +kernel, by decide +kernel⟩
theorem od_deed (T : KF P w K mg base) (k : Kd) (hk : ((k.cls, "Deed", 37, 10) : Str × Str × Nat × Nat) ∈ odN) (e : ∀ ns, k.od ns = []) : KMt P w K mg base CX0 3 k "own_days" (spGv K k Kd.od) := by
  obtain ⟨m, fd, F⟩ := T.odm _ hk
  refine ⟨m, fd, F.ok (N := ["self"]) scOdD (fun vs H Q E h => ?_) (fun cdv A outer s H vs Q E hr h => ?_), FunD.bindsN F fun _ _ _ _ _ _ us hl => match us, hl with | [_], _ => rfl⟩
  · obtain ⟨a, ns, up, rfl, _⟩ := h
    rfl
  · obtain ⟨a, ns, up, rfl, hd, q⟩ := h
    exact ⟨_, PSs.nox (pss_one (ps_ret (pe_tup pa_nil))), by show 0 ≤ sizeLine; rw [sizeLine_eq]; decide, fun t nt => q t _ (same_new nt) (by rw [e]; exact upd_same)⟩
theorem od_day (T : KF P w K mg base) (k : Kd) (hk : ((k.cls, "OfDay", 42, 2) : Str × Str × Nat × Nat) ∈ odN) (e : ∀ ns, k.od ns = ns) : KMt P w K mg base CX0 3 k "own_days" (spGv K k Kd.od) := by
  obtain ⟨m, fd, F⟩ := T.odm _ hk
  obtain ⟨mN, fN, GN, bN⟩ := nm_k (w := w) T k
  refine ⟨m, fd, F.ok (N := ["self"]) scOdY (fun vs H Q E h => ?_) (fun cdv A outer s H vs Q E hr h => ?_), FunD.bindsN F fun _ _ _ _ _ _ us hl => match us, hl with | [_], _ => rfl⟩
  · obtain ⟨a, ns, up, rfl, _⟩ := h
    rfl
  · obtain ⟨a, ns, up, rfl, hd, q⟩ := h
    refine ⟨_, PSs.nox (pss_one (ps_ret (pe_meth0 (E := E0) (pv 0) (kcls T k) mN GN (hr.mono (by decide)) bN .nil pass0))), ?_⟩
    refine (er_named (K := K) k (er_var (i := 0) rfl stb_g ⟨a, rfl, hd⟩)).go fun u H1 s1 ⟨t, e1, ht⟩ => ?_
    obtain rfl := e1
    exact q t H1 s1 (by rw [e]; exact ht)
theorem od_k (T : KF P w K mg base) (k : Kd) : KMt P w K mg base CX0 3 k "own_days" (spGv K k Kd.od) := by
  have d : ∀ k : Kd, (((k.cls, "OfDay", 42, 2) : Str × Str × Nat × Nat) ∈ odN ∧ ∀ ns, k.od ns = ns) ∨ (((k.cls, "Deed", 37, 10) : Str × Str × Nat × Nat) ∈ odN ∧ ∀ ns, k.od ns = []) := by
    intro k
    cases k <;> first
      | exact .inl ⟨by decide, fun _ => rfl⟩
      | exact .inr ⟨by decide, fun _ => rfl⟩
  rcases d k with ⟨h, e⟩ | ⟨h, e⟩
  · exact od_day T k h e
  · exact od_deed T k h e
end
end K8
set_option Elab.async false
set_option linter.all false
set_option maxRecDepth 100000
set_option maxHeartbeats 4000000
/-! Deeds: own fixes. -/
namespace K8
open PySem PySem.Spec PyProof.Rows L2 RV EV He EF EI LamX
def IsL (K : PySem.W.Frag) (ls : List Str) : V → Hp → Prop := fun v H => ∃ a, v = .ref a ∧ IsLot K H a ls
theorem stb_lot {K : PySem.W.Frag} {ls : List Str} : Stb (IsL K ls) := fun _ _ _ s ⟨a, e, dx, tp, O⟩ => ⟨a, e, dx, tp, O.same s⟩
def sOf (ns : List V) : List Str := (ns.filter isSV).map txtV
theorem sOf_eq (ns : List V) : ns.filter isSV = (sOf ns).map V.str := by
  unfold sOf
  rw [List.map_map]
  conv => lhs; rw [← List.map_id (ns.filter isSV)]
  refine List.map_congr_left fun v hv => ?_
  have := (List.mem_filter.mp hv).2
  cases v <;> first | rfl | cases this
def ofV (ns : List V) (ls : List Str) : List Str := ls.filter fun f => (sOf ns).isEmpty || decide (f ∈ sOf ns)
section
variable {K : PySem.W.Frag} {σ : L2.St} {H : Hp} {ta tb te : TE} {tt : TT} {p : Str → Bool} {out : Str → V} {ls : List Str} {i : Nat} {x : Str} {xs : List Str}
theorem er_lco {X : Cx} (T : KF X.prog X.w X.K X.mg X.base) (ha : ER ta σ H (IsL X.K ls)) (hw : ∀ v, wipe ((wipe σ [i]).set i (some v)) [i] = wipe σ [i])
    (ht : ∀ z ∈ ls, ∀ H1, Same H H1 → TestR tt ((wipe σ [i]).set i (some (V.str z))) H1 (p z)) (he : ∀ z ∈ ls, p z = true → ∀ H1, Same H H1 → ER te ((wipe σ [i]).set i (some (V.str z))) H1 (IsV (out z))) :
    ER (tLc (Ow.iOwn X (gO X.K) 1 (lAd X.K "__iter__") ta) (gName i) tt te [i]) σ H (AtL ((ls.filter p).map out)) := fun H1 s1 F k => ha H1 s1 _ fun v H2 s2 ⟨a, e, dx, tp, O⟩ => by
  obtain rfl := e
  have hn : ls.length ≤ 1000 := by have := O.le; omega
  refine ⟨a, dx, _, tp, _, rfl, O.ob, SqT.of O.ps, gives_iterL T O, fun D nD => ?_⟩
  have s12 := s1.trans s2
  exact lct (K := X.K) (a := tp) (σ := σ) (i := i) (tt := tt) (te := te) (p := p) (enc := V.str) (out := out) (ns := ls) (Qd := F (.ref D)) (fun H' s => SqT.of (s _ _ O.ps))
    ⟨nD, hn, hw, fun z hz H3 F3 s3 k3 => ht z hz H3 (s12.trans s3) H3 same_rfl F3 k3, fun z hz hp H3 F3 s3 k3 => he z hz hp H3 (s12.trans s3) H3 same_rfl F3 fun u H4 s4 e => by rw [e]; exact k3 H4 s4, fun H3 s3 h3 => k _ H3 (s2.trans s3) ⟨D, rfl, h3⟩⟩
theorem t_inL (ha : ER ta σ H (IsV (.str x))) (hb : ER tb σ H (AtL (xs.map V.str))) : TestR (tTest (tOp (rIn K false) ta tb)) σ H (decide (x ∈ xs)) := fun H1 s1 F k =>
  ha H1 s1 _ fun v H2 s2 e => hb H2 (s1.trans s2) _ fun u H3 s3 ⟨r, e2, hr⟩ => by
    obtain rfl := e
    obtain rfl := e2
    refine ⟨r, _, rfl, .inl (SqL.of hr), rfl, flat_strs xs, ?_⟩
    rw [inV_str]
    exact ⟨_, rfl, k H3 (s2.trans s3)⟩
abbrev tTru (K : PySem.W.Frag) (ta : TE) : TT := fun σ H Q => ta σ H fun x H' => ∃ k, TruV K x H' k ∧ Q k H'
theorem t_tru {ys : List V} (hb : ER ta σ H (AtL ys)) : TestR (tTru K ta) σ H (!ys.isEmpty) := fun H1 s1 F k => hb H1 s1 _ fun u H3 s3 ⟨r, e2, hr⟩ => by
  obtain rfl := e2
  exact ⟨_, .inl ⟨_, SqL.of hr, rfl⟩, k H3 s3⟩
end
def spFxs (K : PySem.W.Frag) (k : Kd) : Sp := fun vs H Q _ => ∃ a l ns up ls, vs = [.ref a, l] ∧ GD K H a k ns up ∧ IsL K ls l H ∧ ∀ t H', Same H H' → H' t = some (.tup ((ofV ns ls).map V.str)) → Q (.ref t) H'
abbrev scOf_N : List Str := ["self", "lot", "told", "part", "fix"]
theorem scOfx : FnScope scOf_N ["self", "lot"] (defScope (inClass (top 37) 11)) := ⟨rfl, rfl, rfl, by decide +kernel, rfl, by decide +kernel, by decide +kernel⟩
theorem Kd.inOf (k : Kd) : ((k.cls, "Deed", 37, 11) : Str × Str × Nat × Nat) ∈ ofN := by cases k <;> decide
section
variable {P : Program} {w : World} {K : PySem.W.Frag} {mg : Str → Option Value} {base : Heap}
theorem of_k (T : KF P w K mg base) (k : Kd) : Meth K (ga K k.cls) "own_fixes" (ma K (ga K k.cls) "own_fixes") ∧ ∃ fd, FnOk P w K mg base CX0 3 (ma K (ga K k.cls) "own_fixes") fd ["self", "lot"] (spFxs K k) ∧ L2.Binds K fd ["self", "lot"] [] ∧ ∃ q2, FunD K "own_fixes" q2 (defArgs (inClass (top 37) 11)) (defBody (inClass (top 37) 11)) (defScope (inClass (top 37) 11)) [] [] (ma K (ga K k.cls) "own_fixes") fd := by
  obtain ⟨m, fd, F⟩ := T.ofm _ k.inOf
  obtain ⟨mN, fN, GN, bN⟩ := nm_k (w := w) T k
  obtain ⟨mI, _⟩ := T.lot ("__iter__", 8) (by decide)
  have cl := kcls T k
  refine ⟨m, fd, F.ok (N := scOf_N) scOfx (fun vs H Q E h => ?_) (fun cdv A outer s H vs Q E hr h => ?_), FunD.bindsN F fun _ _ _ _ _ _ us hl => match us, hl with | [_, _], _ => rfl, _, F⟩
  · obtain ⟨a, l, ns, up, ls, rfl, _⟩ := h
    rfl
  · obtain ⟨a, l, ns, up, ls, rfl, hd, hl, q⟩ := h
    refine ⟨_, PSs.nox (pss_cons (ps_set (i := 2) scOfx.nd rfl (.inr rfl) (pe_lc (own := [("part", 3)]) (g := gName 3) (tt := tB (tCB (rIsi K) (tCons (tVar 3) (tCons (tC (V.ty "str")) tNil)))) (te := tVar 3) rfl scOfx.nd (pi_tup (pe_meth0 (E := E0) (pv 0) cl mN GN (hr.mono (by decide)) bN .nil pass0)) (blkOk_by (N := scOf_N) (sc := defScope (inClass (top 37) 11)) (by decide +kernel))
        (fun _ _ _ _ _ => pg_name (i := 3) scOfx.nd rfl (.inl rfl)) (fun _ _ _ _ _ => pts_one (pt_val (pe_callB call_isi (by rfl) (T.fr "isinstance" (by decide)) PyProof.Rows.boot_isinstance (pa_cons (pv 3) (pa_cons (pe_bltn (v := .ty "str") (by rfl) (T.fr "str" (by decide)) boot_T rfl) pa_nil))))) (fun _ _ _ _ _ => pv 3)))
      (pss_one (ps_ret (pe_callTy call_tuple_of (by rfl) (T.fr "tuple" (by decide)) boot_T (pa_cons
        (pe_lc (own := [("fix", 4)]) (g := gName 4) (tt := tOr (tNot (tTru K (tVar 2))) (tTest (tOp (rIn K false) (tVar 4) (tVar 2)))) (te := tVar 4) rfl scOfx.nd (Ow.pi_own (k := 1) (C := gO K) (f := lAd K "__iter__") (pv 1) mI.at_ mI.fn (hr.mono (by decide))) (blkOk_by (N := scOf_N) (sc := defScope (inClass (top 37) 11)) (by decide +kernel))
          (fun _ _ _ _ _ => pg_name (i := 4) scOfx.nd rfl (.inl rfl)) (fun _ _ _ _ _ => pts_one (PW.pt (pw_or (pt_not (pt_truth (pv 2) (fun _ => rfl))) (pw_or1 (pt_cmpR op_in_seq (pv 4) (pv 2) rfl))))) (fun _ _ _ _ _ => pv 4)) pa_nil))))), ?_⟩
    have hs : L2.start scOf_N [.ref a, l] = [some (.ref a), some l, none, none, none] := rfl
    rw [hs]
    obtain ⟨tw, ln, _⟩ := dok_tx hd.ok
    have nm : ER (tMeth (ga K k.cls) "named" (spNm K k) [] E0 (tVar 0) tNil) [some (.ref a), some l, none, none, none] H (AtT (ns.map id)) := by
      rw [List.map_id]
      exact er_named k (er_var (i := 0) rfl stb_g ⟨a, rfl, hd⟩)
    have lc := er_lct (K := K) (σ := [some (.ref a), some l, none, none, none]) (H := H) (i := 3) (p := isSV) (tt := tB (tCB (rIsi K) (tCons (tVar 3) (tCons (tC (V.ty "str")) tNil)))) (te := tVar 3) (enc := id) (out := id) (ns := ns) nm (by omega) (fun _ => rfl) (fun z hz G s => t_isi (K := K) (er_v (i := 3) rfl) fun H' => kit_st (tw z hz) H') (fun z hz _ G s => er_v (i := 3) rfl)
    rw [List.map_id, sOf_eq] at lc
    refine ER.asg (i := 2) lc fun v H1 s1 ⟨L, e, hL⟩ => ?_
    obtain rfl := e
    show tRet _ _ [some (.ref a), some l, some (.ref L), none, none] H1
    have lt : ∀ {G v4}, Same H1 G → ER (tVar 2) [some (.ref a), some l, some (.ref L), none, v4] G (AtL ((sOf ns).map V.str)) := fun s => er_row (i := 2) rfl (s _ _ hL)
    have lc2 := er_lco (σ := [some (.ref a), some l, some (.ref L), none, none]) (H := H1) (ls := ls) (i := 4) (p := fun f => (sOf ns).isEmpty || decide (f ∈ sOf ns)) (tt := tOr (tNot (tTru K (tVar 2))) (tTest (tOp (rIn K false) (tVar 4) (tVar 2)))) (te := tVar 4) (out := V.str)
      (X := (cxOf CX0 P w K mg base scOf_N ("Deed" ++ "." ++ "own_fixes") (defScope (inClass (top 37) 11)) (ma K (ga K k.cls) "own_fixes") cdv A outer s H E).nox) T (ta := tVar 1) (er_var (i := 1) rfl stb_lot (stb_lot _ _ _ s1 hl)) (fun _ => rfl)
      (fun z hz G s => by
        have e1 : (!(!((sOf ns).map V.str).isEmpty)) = (sOf ns).isEmpty := by cases sOf ns <;> rfl
        have t1 := TestR.not (t_tru (K := K) (lt (v4 := some (V.str z)) s))
        rw [e1] at t1
        exact TestR.or t1 (t_inL (K := K) (er_v (i := 4) rfl) (lt s))) (fun z hz _ G s => er_v (i := 4) rfl)
    refine (er_tupl (K := K) lc2).go fun u H2 s2 ⟨t, e1, ht⟩ => ?_
    obtain rfl := e1
    exact q t H2 (s1.trans s2) ht
end
end K8
set_option Elab.async false
set_option linter.all false
set_option maxRecDepth 100000
set_option maxHeartbeats 1000000
/-! Calls by keywords alone: f(k = v, ..), o.m(k = v, ..), C(k = v, ..). -/
namespace Kw
open PySem PySem.Spec PyProof.Rows L2
/-- some places of a list, in order -/
def sel {α : Type} (perm : List Nat) (l : List α) : List α := perm.filterMap fun i => l[i]?
theorem vals_sel {zs : List V} {ws : List Value} (r : Vals zs ws) : ∀ perm : List Nat, Vals (sel perm zs) (sel perm ws)
  | [] => .nil
  | i :: perm => by
    have ih := vals_sel r perm
    unfold sel at ih ⊢
    cases e : zs[i]? with
    | none =>
      have e2 : ws[i]? = none := by
        rw [List.getElem?_eq_none_iff] at e ⊢
        rw [← r.length]
        exact e
      rw [List.filterMap_cons_none e, List.filterMap_cons_none e2]
      exact ih
    | some x =>
      obtain ⟨u, hu, ru⟩ := r.get e
      rw [List.filterMap_cons_some e, List.filterMap_cons_some hu]
      exact .cons ru ih
section
variable {X : Cx} {CX : CXT} {k : Nat} {f C : Addr} {fd : FuncData} {ps ks : List Str} {sp : Sp} {E : XK} {x m : Str} {p pos apos : Pos} {o : Expr} {kws : List Keyword} {ta : TE} {tk : TA} {perm : List Nat} {ds : List Value} {dvs : List V}
theorem run_kw {pins : List (Addr × Obj)} {σ : L2.St} {H : Hp} {s : Shared} {Q : VK} {us ws : List Value} {vs zs : List V} (F : FnOk X.prog X.w X.K X.mg X.base CX k f fd ps sp) (hr : Room k X.A) (hx : Passes CX X E)
    (b : BindsTo s fd ⟨us, ks.zip ws⟩ (ps.zip (us ++ sel perm ws))) (I : Inv X pins σ H s) (r : Vals vs us) (rz : Vals zs ws) (h : sp (vs ++ sel perm zs) H Q E) : wpAny (model X.prog X.w) X.A (call (.ref f) us (ks.zip ws)) (EP X pins σ Q) X.xe s := by
  refine wpAny_call (codeAny_mono (F.run X.A X.stack s H ⟨us, ks.zip ws⟩ (us ++ sel perm ws) (vs ++ sel perm zs) Q E hr I.env0 b (r.append (vals_sel rz perm)) h) fun z s' hz => ?_)
  match z, hz with
  | .error e, hz => exact hx pins σ H s e s' I hz
  | .ok (.ret u), hz => exact I.after hz
def tCallKw (sp : Sp) (perm : List Nat) (n : Nat) (E : XK) (tk : TA) : TE := fun σ H Q => tk σ H fun zs H1 => zs.length = n ∧ sp (sel perm zs) H1 Q E
/-- f(k = v, ..) -/
theorem pe_callKw (F : FnOk X.prog X.w X.K X.mg X.base CX k f fd ps sp) (hr : Room k X.A) (hg : Gl X x) (hm : X.mg x = some (.ref f)) (hk : PySem.W.keepIn X.K (.ref f) = true) (hb : ∀ (s : Shared) (ws : List Value), ws.length = ks.length → BindsTo s fd ⟨[], ks.zip ws⟩ (ps.zip (sel perm ws)))
    (hx : Passes CX X E) (hkw : PK X kws tk) (hall : (backToKw pos (keywordEach kws X.env)).all (·.1.isSome) = true := by rfl) (hks : (backToKw pos (keywordEach kws X.env)).filterMap (·.1) = ks := by rfl) (hdb : (x == ("__debug__" : Str)) = false := by decide)
    (hpl : ((backTo pos (starEach [] X.env)).any (·.1) || (backToKw pos (keywordEach kws X.env)).any (·.1.isNone)) = false := by rfl) : PE X (.Call (.Name x p) [] kws pos) (tCallKw sp perm ks.length E tk) := by
  refine ⟨fun pins s σ H Q I h => wpAny_Call_Name_kw (ld_glob I hg hm ?_ hdb)⟩
  refine PySem.W.callWith_KW0 (h₀ := X.base) I.ok.mod.kin hk hall (thn (hkw.run pos pins s σ H _ I h) fun ws s1 hw => ?_) hpl
  obtain ⟨zs, H1, I1, rz, hl, q⟩ := hw
  refine ⟨I1.kIn, ?_⟩
  rw [hks]
  exact run_kw (us := []) (vs := []) F hr hx (hb s1 ws (rz.length.symm.trans hl)) I1 .nil rz q
def tMethKw (C : Addr) (m : Str) (sp : Sp) (perm : List Nat) (n : Nat) (E : XK) (ta : TE) (tk : TA) : TE := fun σ H Q => ta σ H fun x H1 => ∃ a dx fs, x = .ref a ∧ H1 a = some (.ins C dx fs) ∧ fs.lookup m = none ∧ tk σ H1 fun zs H2 => zs.length = n ∧ sp (x :: sel perm zs) H2 Q E
/-- o.m(k = v, ..) -/
theorem pe_methKw {pl : Sem Bool} (he : PE X o ta) (c : Cls X.K C) (hm : Meth X.K C m f) (F : FnOk X.prog X.w X.K X.mg X.base CX k f fd ps sp) (hr : Room k X.A) (hb : ∀ (s : Shared) (u : Value) (ws : List Value), ws.length = ks.length → BindsTo s fd ⟨[u], ks.zip ws⟩ (ps.zip (u :: sel perm ws)))
    (hx : Passes CX X E) (hkw : PK X kws tk) (hall : (backToKw pos (keywordEach kws X.env)).all (·.1.isSome) = true := by rfl) (hks : (backToKw pos (keywordEach kws X.env)).filterMap (·.1) = ks := by rfl)
    (hpl : ((backTo pos (starEach [] X.env)).any (·.1) || (backToKw pos (keywordEach kws X.env)).any (·.1.isNone)) = false := by rfl)
    (ht : eval (.Call (.Attribute o m apos) [] kws pos) X.env = (do
      let u ← eval o X.env
      standAt apos.atName
      let (g, one) ← holding [u] (getMethod u m pl)
      callWith pos g one (backTo pos (starEach [] X.env)) (backToKw pos (keywordEach kws X.env))) := by rfl) : PE X (.Call (.Attribute o m apos) [] kws pos) (tMethKw C m sp perm ks.length E ta tk) := by
  refine ⟨fun pins s σ H Q I h => PySem.W.methodCall_KW (pl := pl) (thn (he.run pins s σ H _ I h) fun v s1 hv => ?_) ht⟩
  obtain ⟨x, H1, I1, rx, a, dx, fs, rfl, ea, l, q⟩ := hv
  obtain rfl : v = Value.ref a := rx
  refine getmeth_ok I1 ea c hm l (PySem.W.callWith_KW0 (first := [.ref a]) (h₀ := X.base) I.ok.mod.kin hm.kp hall (thn (hkw.run pos pins s1 σ H1 _ I1 q) fun ws s2 hw => ?_) hpl)
  obtain ⟨zs, H2, I2, rz, hl, q2⟩ := hw
  refine ⟨I2.kIn, ?_⟩
  rw [hks]
  exact run_kw (us := [.ref a]) (vs := [.ref a]) F hr hx (hb s2 (.ref a) ws (rz.length.symm.trans hl)) I2 (.cons rfl .nil) rz q2
/-- C(k = v, ..) -/
theorem pe_makeKw {g : List Value → List Value → List Value} {gV : List V → List V → List V} (M : Mk X.K C f) (F : FnOk X.prog X.w X.K X.mg X.base CX k f fd ps sp) (hr : Room (k + 1) X.A) (hg : Gl X x) (hm : X.mg x = some (.ref C)) (hb : KBn X.K fd ps 1 ks g gV) (hx : Passes CX X E) (hkw : PK X kws tk)
    (hall : (backToKw pos (keywordEach kws X.env)).all (·.1.isSome) = true := by rfl) (hks : (backToKw pos (keywordEach kws X.env)).filterMap (·.1) = ks := by rfl) (hdb : (x == ("__debug__" : Str)) = false := by decide)
    (hpl : ((backTo pos (starEach [] X.env)).any (·.1) || (backToKw pos (keywordEach kws X.env)).any (·.1.isNone)) = false := by rfl) : PE X (.Call (.Name x p) [] kws pos) (tMakeN C 0 ks.length sp gV E tNil tk) := by
  refine ⟨fun pins s σ H Q I h => wpAny_Call_Name_kw (ld_glob I hg hm ?_ hdb)⟩
  refine PySem.W.callWith_KW0 (h₀ := X.base) I.ok.mod.kin M.kp hall (thn (hkw.run pos pins s σ H _ I h) fun ws s1 hw => ?_) hpl
  obtain ⟨zs, H1, I1, rz, _, hl, q⟩ := hw
  refine ⟨I1.kIn, ?_⟩
  rw [hks]
  exact run_makeN (us := []) (vs := []) M F hr hb hx I1 .nil rz rfl hl q
end
end Kw
set_option Elab.async false
set_option linter.all false
set_option maxRecDepth 100000
set_option maxHeartbeats 4000000
/-! Deeds made by their classes, also by keywords. -/
namespace K8
open PySem PySem.Spec PyProof.Rows L2 RV EV He EF EI LamX
/-- what is written evaluates to ns -/
def ERA (t : TA) (σ : L2.St) (H : Hp) (ns : List V) : Prop := ∀ H1, Same H H1 → ∀ F : List V → Hp → Prop, (∀ H2, Same H1 H2 → F ns H2) → t σ H1 F
section
variable {K : PySem.W.Frag} {σ : L2.St} {H : Hp} {t tk : TA} {te : TE} {ns zs : List V} {v u up : V} {k : Kd} {C : Addr} {n m : Nat} {oc : List V → Option Err} {fl : List V → List (Str × V)} {E : XK}
theorem era_nil : ERA tNil σ H [] := fun H1 s1 F q => q H1 same_rfl
theorem era_cons (a : ER te σ H (IsV v)) (b : ERA t σ H ns) : ERA (tCons te t) σ H (v :: ns) := fun H1 s1 F q => a H1 s1 _ fun x H2 s2 e => b H2 (s1.trans s2) _ fun H3 s3 => by
  obtain rfl := e
  exact q H3 (s2.trans s3)
theorem new_gd {as : List V} {Q : VK} (hC : C = ga K k.cls) (hl : as.length = n) (hoc : oc as = none) (ok : DOk k ns up) (sub : as = ns ∨ as = ns ++ [up]) (sh : ∀ H', k.shp.at H' (fl as) ns up) (q : ∀ x H', Same H H' → IsG K k ns up x H' → Q x H') : Oo.wNew C (spMk K C n oc fl) E as H Q := by
  subst hC
  obtain ⟨h1, h2, h3⟩ := dok_tx ok
  have ao : AllOdd H as := by
    rcases sub with rfl | rfl
    · exact allOdd_tx fun v hv => (h1 v hv).tx
    · refine fun v hv => ?_
      rcases List.mem_append.mp hv with hv | hv
      · exact allOdd_tx (fun v hv => (h1 v hv).tx) v hv
      · rw [List.mem_singleton.mp hv]
        exact odd_tx (h3.imp id TxW.tx)
  exact mk_f hl ao hoc fun x dx H' s e => q _ H' s ⟨x, rfl, ⟨dx, _, e, sh H'⟩, ok⟩
/-- C(a, b) -/
theorem er_new {dvs as : List V} (hC : C = ga K k.cls) (ha : ERA t σ H zs) (e : zs ++ dvs = as) (hl : as.length = n) (hoc : oc as = none) (ok : DOk k ns up) (sub : as = ns ∨ as = ns ++ [up]) (sh : ∀ H', k.shp.at H' (fl as) ns up) : ER (tMake C (spMk K C n oc fl) dvs E t) σ H (IsG K k ns up) := fun H1 s1 F q => ha H1 s1 _ fun H2 s2 => by
  rw [e]
  exact new_gd hC hl hoc ok sub sh fun x H' s h => q x H' (s2.trans s) h
/-- C(k = a, j = b) -/
theorem er_newK {gV : List V → List V → List V} {as : List V} (hC : C = ga K k.cls) (ha : ERA tk σ H zs) (hm : zs.length = m) (e : ∀ x, gV [V.ref x] zs = V.ref x :: as) (hl : as.length = n) (hoc : oc as = none) (ok : DOk k ns up) (sub : as = ns ∨ as = ns ++ [up]) (sh : ∀ H', k.shp.at H' (fl as) ns up) : ER (tMakeN C 0 m (spMk K C n oc fl) gV E tNil tk) σ H (IsG K k ns up) := fun H1 s1 F q => ha H1 s1 _ fun H2 s2 => by
  have w : Oo.wNew C (spMk K C n oc fl) E as H2 F := new_gd hC hl hoc ok sub sh fun x H' s h => q x H' (s2.trans s) h
  refine ⟨rfl, hm, fun x dx hx hd ne => ?_⟩
  rw [e x]
  exact w x dx hx hd ne
theorem sk_gd {ocs : V → List V → Option Err} {f : Str} {Q : VK} (hC : C = ga K k.cls) (hs : k.shp = .many f) (hoc : ocs up ns = none) (ok : DOk k ns up) (q : ∀ x H', Same H H' → IsG K k ns up x H' → Q x H') : Sk.wSK C (Sk.spSK (spMkS K C ocs f "upto")) E ns up H Q := by
  subst hC
  obtain ⟨h1, h2, h3⟩ := dok_tx ok
  refine mks_f (by rw [sizeLine_eq]; omega) (odd_tx (h3.imp id TxW.tx)) (allOdd_tx fun v hv => (h1 v hv).tx) hoc fun x dx t H' s ht e => q _ H' s ⟨x, rfl, ⟨dx, _, e, ?_⟩, ok⟩
  rw [hs]
  exact ⟨t, ht, rfl⟩
theorem er_sk {ocs : V → List V → Option Err} {f : Str} (hC : C = ga K k.cls) (hs : k.shp = .many f) (ha : ERA t σ H ns) (hoc : ocs .non ns = none) (ok : DOk k ns .non) : ER (Sk.tSK C (Sk.spSK (spMkS K C ocs f "upto")) E t) σ H (IsG K k ns .non) := fun H1 s1 F q => ha H1 s1 _ fun H2 s2 =>
  sk_gd hC hs hoc ok fun x H' s h => q x H' (s2.trans s) h
theorem er_skK {ocs : V → List V → Option Err} {f : Str} (hC : C = ga K k.cls) (hs : k.shp = .many f) (ha : ERA t σ H ns) (hu : ERA tk σ H [up]) (hoc : ocs up ns = none) (ok : DOk k ns up) : ER (Sk.tSKK C (Sk.spSK (spMkS K C ocs f "upto")) E t tk) σ H (IsG K k ns up) := fun H1 s1 F q => ha H1 s1 _ fun H2 s2 => hu H2 (s1.trans s2) _ fun H3 s3 =>
  ⟨up, rfl, sk_gd hC hs hoc ok fun x H' s h => q x H' ((s2.trans s3).trans s) h⟩
/-- C() -/
theorem er_cut (T0 : True) : ER (Oo.tNew00 (ga K "Cut")) σ H (IsG K .cut [] .non) := fun H1 s1 F q x dx hx hd ne =>
  q _ _ (same_obj hx hd) ⟨x, rfl, ⟨dx, [], upd_same, rfl, rfl, rfl⟩, rfl, rfl⟩
end
abbrev gV2 : List V → List V → List V := fun vs zs => vs ++ zs
abbrev gVx : List V → List V → List V := fun vs zs => vs ++ Kw.sel [1, 0] zs
theorem sel_rel {vs : List V} {us : List Value} {zs : List V} {ws : List Value} (r : Vals vs us) (rz : Vals zs ws) : Vals (vs ++ Kw.sel [1, 0] zs) (us ++ Kw.sel [1, 0] ws) := r.append (Kw.vals_sel rz _)
section
variable {P : Program} {w : World} {K : PySem.W.Frag} {mg : Str → Option Value} {base : Heap}
theorem x_Fix (T : KF P w K mg base) : ∃ fd, FnOk P w K mg base (L2.CX P w) 5 (ma K (ga K "Fix") "__init__") fd ["self", "fix"] (spDFix K) ∧ KBn K fd ["self", "fix"] 1 ["fix"] (fun us ws => us ++ ws) gV2 ∧ Mk K (ga K "Fix") (ma K (ga K "Fix") "__init__") ∧ mg "Fix" = some (.ref (ga K "Fix")) := by
  obtain ⟨fd, F⟩ := T.ik ("Fix", 46) (by decide)
  obtain ⟨g, _, m⟩ := T.gk ("Fix", 46) (by decide)
  refine ⟨fd, ok_Fix T F, ⟨fun s us ws _ h1 h2 => ?_, fun r rz => r.append rz⟩, m, g⟩
  obtain ⟨oc, od, dV, kV, doc, pm, an, cdv, ct, osl, rfl, lk, hcd, hD, hK⟩ := F.ex
  rcases hD with ⟨_, rfl⟩ | ⟨e, _⟩
  · match us, ws, h1, h2 with
      | [a], [b], _, _ => exact .of_eq rfl
  · exact absurd rfl e
theorem x_Unfix (T : KF P w K mg base) : ∃ fd, FnOk P w K mg base (L2.CX P w) 5 (ma K (ga K "Unfix") "__init__") fd ["self", "fix"] (spDUnfix K) ∧ KBn K fd ["self", "fix"] 1 ["fix"] (fun us ws => us ++ ws) gV2 ∧ Mk K (ga K "Unfix") (ma K (ga K "Unfix") "__init__") ∧ mg "Unfix" = some (.ref (ga K "Unfix")) := by
  obtain ⟨fd, F⟩ := T.ik ("Unfix", 47) (by decide)
  obtain ⟨g, _, m⟩ := T.gk ("Unfix", 47) (by decide)
  refine ⟨fd, ok_Unfix T F, ⟨fun s us ws _ h1 h2 => ?_, fun r rz => r.append rz⟩, m, g⟩
  obtain ⟨oc, od, dV, kV, doc, pm, an, cdv, ct, osl, rfl, lk, hcd, hD, hK⟩ := F.ex
  rcases hD with ⟨_, rfl⟩ | ⟨e, _⟩
  · match us, ws, h1, h2 with
      | [a], [b], _, _ => exact .of_eq rfl
  · exact absurd rfl e
theorem x_End (T : KF P w K mg base) : ∃ fd, FnOk P w K mg base (L2.CX P w) 5 (ma K (ga K "End") "__init__") fd ["self", "line"] (spDEnd K) ∧ KBn K fd ["self", "line"] 1 ["line"] (fun us ws => us ++ ws) gV2 ∧ Mk K (ga K "End") (ma K (ga K "End") "__init__") ∧ mg "End" = some (.ref (ga K "End")) := by
  obtain ⟨fd, F⟩ := T.ik ("End", 52) (by decide)
  obtain ⟨g, _, m⟩ := T.gk ("End", 52) (by decide)
  refine ⟨fd, ok_End T F, ⟨fun s us ws _ h1 h2 => ?_, fun r rz => r.append rz⟩, m, g⟩
  obtain ⟨oc, od, dV, kV, doc, pm, an, cdv, ct, osl, rfl, lk, hcd, hD, hK⟩ := F.ex
  rcases hD with ⟨_, rfl⟩ | ⟨e, _⟩
  · match us, ws, h1, h2 with
      | [a], [b], _, _ => exact .of_eq rfl
  · exact absurd rfl e
theorem x_Offer (T : KF P w K mg base) : ∃ fd, FnOk P w K mg base (L2.CX P w) 5 (ma K (ga K "Offer") "__init__") fd ["self", "line"] (spDOffer K) ∧ KBn K fd ["self", "line"] 1 ["line"] (fun us ws => us ++ ws) gV2 ∧ Mk K (ga K "Offer") (ma K (ga K "Offer") "__init__") ∧ mg "Offer" = some (.ref (ga K "Offer")) := by
  obtain ⟨fd, F⟩ := T.ik ("Offer", 53) (by decide)
  obtain ⟨g, _, m⟩ := T.gk ("Offer", 53) (by decide)
  refine ⟨fd, ok_Offer T F, ⟨fun s us ws _ h1 h2 => ?_, fun r rz => r.append rz⟩, m, g⟩
  obtain ⟨oc, od, dV, kV, doc, pm, an, cdv, ct, osl, rfl, lk, hcd, hD, hK⟩ := F.ex
  rcases hD with ⟨_, rfl⟩ | ⟨e, _⟩
  · match us, ws, h1, h2 with
      | [a], [b], _, _ => exact .of_eq rfl
  · exact absurd rfl e
theorem x_Live (T : KF P w K mg base) : ∃ fd, FnOk P w K mg base (L2.CX P w) 5 (ma K (ga K "Live") "__init__") fd ["self", "line"] (spDLive K) ∧ KBn K fd ["self", "line"] 1 ["line"] (fun us ws => us ++ ws) gV2 ∧ Mk K (ga K "Live") (ma K (ga K "Live") "__init__") ∧ mg "Live" = some (.ref (ga K "Live")) := by
  obtain ⟨fd, F⟩ := T.ik ("Live", 54) (by decide)
  obtain ⟨g, _, m⟩ := T.gk ("Live", 54) (by decide)
  refine ⟨fd, ok_Live T F, ⟨fun s us ws _ h1 h2 => ?_, fun r rz => r.append rz⟩, m, g⟩
  obtain ⟨oc, od, dV, kV, doc, pm, an, cdv, ct, osl, rfl, lk, hcd, hD, hK⟩ := F.ex
  rcases hD with ⟨_, rfl⟩ | ⟨e, _⟩
  · match us, ws, h1, h2 with
      | [a], [b], _, _ => exact .of_eq rfl
  · exact absurd rfl e
theorem x_Down (T : KF P w K mg base) : ∃ fd, FnOk P w K mg base (L2.CX P w) 5 (ma K (ga K "Down") "__init__") fd ["self", "line"] (spDDown K) ∧ KBn K fd ["self", "line"] 1 ["line"] (fun us ws => us ++ ws) gV2 ∧ Mk K (ga K "Down") (ma K (ga K "Down") "__init__") ∧ mg "Down" = some (.ref (ga K "Down")) := by
  obtain ⟨fd, F⟩ := T.ik ("Down", 55) (by decide)
  obtain ⟨g, _, m⟩ := T.gk ("Down", 55) (by decide)
  refine ⟨fd, ok_Down T F, ⟨fun s us ws _ h1 h2 => ?_, fun r rz => r.append rz⟩, m, g⟩
  obtain ⟨oc, od, dV, kV, doc, pm, an, cdv, ct, osl, rfl, lk, hcd, hD, hK⟩ := F.ex
  rcases hD with ⟨_, rfl⟩ | ⟨e, _⟩
  · match us, ws, h1, h2 with
      | [a], [b], _, _ => exact .of_eq rfl
  · exact absurd rfl e
theorem x_Day (T : KF P w K mg base) : ∃ fd, FnOk P w K mg base (L2.CX P w) 5 (ma K (ga K "Day") "__init__") fd ["self", "line"] (spDDay K) ∧ KBn K fd ["self", "line"] 1 ["line"] (fun us ws => us ++ ws) gV2 ∧ Mk K (ga K "Day") (ma K (ga K "Day") "__init__") ∧ mg "Day" = some (.ref (ga K "Day")) := by
  obtain ⟨fd, F⟩ := T.ik ("Day", 56) (by decide)
  obtain ⟨g, _, m⟩ := T.gk ("Day", 56) (by decide)
  refine ⟨fd, ok_Day T F, ⟨fun s us ws _ h1 h2 => ?_, fun r rz => r.append rz⟩, m, g⟩
  obtain ⟨oc, od, dV, kV, doc, pm, an, cdv, ct, osl, rfl, lk, hcd, hD, hK⟩ := F.ex
  rcases hD with ⟨_, rfl⟩ | ⟨e, _⟩
  · match us, ws, h1, h2 with
      | [a], [b], _, _ => exact .of_eq rfl
  · exact absurd rfl e
theorem x_Redo (T : KF P w K mg base) : ∃ fd, FnOk P w K mg base (L2.CX P w) 5 (ma K (ga K "Redo") "__init__") fd ["self", "day"] (spDRedo K) ∧ KBn K fd ["self", "day"] 1 ["day"] (fun us ws => us ++ ws) gV2 ∧ Mk K (ga K "Redo") (ma K (ga K "Redo") "__init__") ∧ mg "Redo" = some (.ref (ga K "Redo")) := by
  obtain ⟨fd, F⟩ := T.ik ("Redo", 62) (by decide)
  obtain ⟨g, _, m⟩ := T.gk ("Redo", 62) (by decide)
  refine ⟨fd, ok_Redo T F, ⟨fun s us ws _ h1 h2 => ?_, fun r rz => r.append rz⟩, m, g⟩
  obtain ⟨oc, od, dV, kV, doc, pm, an, cdv, ct, osl, rfl, lk, hcd, hD, hK⟩ := F.ex
  rcases hD with ⟨_, rfl⟩ | ⟨e, _⟩
  · match us, ws, h1, h2 with
      | [a], [b], _, _ => exact .of_eq rfl
  · exact absurd rfl e
theorem x_Shut (T : KF P w K mg base) : ∃ fd, FnOk P w K mg base (L2.CX P w) 5 (ma K (ga K "Shut") "__init__") fd ["self", "day"] (spDShut K) ∧ KBn K fd ["self", "day"] 1 ["day"] (fun us ws => us ++ ws) gV2 ∧ Mk K (ga K "Shut") (ma K (ga K "Shut") "__init__") ∧ mg "Shut" = some (.ref (ga K "Shut")) := by
  obtain ⟨fd, F⟩ := T.ik ("Shut", 64) (by decide)
  obtain ⟨g, _, m⟩ := T.gk ("Shut", 64) (by decide)
  refine ⟨fd, ok_Shut T F, ⟨fun s us ws _ h1 h2 => ?_, fun r rz => r.append rz⟩, m, g⟩
  obtain ⟨oc, od, dV, kV, doc, pm, an, cdv, ct, osl, rfl, lk, hcd, hD, hK⟩ := F.ex
  rcases hD with ⟨_, rfl⟩ | ⟨e, _⟩
  · match us, ws, h1, h2 with
      | [a], [b], _, _ => exact .of_eq rfl
  · exact absurd rfl e
theorem x_Carry (T : KF P w K mg base) : ∃ fd, FnOk P w K mg base (L2.CX P w) 5 (ma K (ga K "Carry") "__init__") fd ["self", "fix", "line"] (spDCarry K) ∧ KBn K fd ["self", "fix", "line"] 1 ["line", "fix"] (fun us ws => us ++ Kw.sel [1, 0] ws) gVx ∧ Mk K (ga K "Carry") (ma K (ga K "Carry") "__init__") ∧ mg "Carry" = some (.ref (ga K "Carry")) := by
  obtain ⟨fd, F⟩ := T.ik ("Carry", 49) (by decide)
  obtain ⟨g, _, m⟩ := T.gk ("Carry", 49) (by decide)
  refine ⟨fd, ok_Carry T F, ⟨fun s us ws _ h1 h2 => ?_, fun r rz => sel_rel r rz⟩, m, g⟩
  obtain ⟨oc, od, dV, kV, doc, pm, an, cdv, ct, osl, rfl, lk, hcd, hD, hK⟩ := F.ex
  rcases hD with ⟨_, rfl⟩ | ⟨e, _⟩
  · match us, ws, h1, h2 with
      | [a], [b, c], _, _ => exact .of_eq rfl
  · exact absurd rfl e
theorem x_Drop (T : KF P w K mg base) : ∃ fd, FnOk P w K mg base (L2.CX P w) 5 (ma K (ga K "Drop") "__init__") fd ["self", "fix", "line"] (spDDrop K) ∧ KBn K fd ["self", "fix", "line"] 1 ["line", "fix"] (fun us ws => us ++ Kw.sel [1, 0] ws) gVx ∧ Mk K (ga K "Drop") (ma K (ga K "Drop") "__init__") ∧ mg "Drop" = some (.ref (ga K "Drop")) := by
  obtain ⟨fd, F⟩ := T.ik ("Drop", 50) (by decide)
  obtain ⟨g, _, m⟩ := T.gk ("Drop", 50) (by decide)
  refine ⟨fd, ok_Drop T F, ⟨fun s us ws _ h1 h2 => ?_, fun r rz => sel_rel r rz⟩, m, g⟩
  obtain ⟨oc, od, dV, kV, doc, pm, an, cdv, ct, osl, rfl, lk, hcd, hD, hK⟩ := F.ex
  rcases hD with ⟨_, rfl⟩ | ⟨e, _⟩
  · match us, ws, h1, h2 with
      | [a], [b, c], _, _ => exact .of_eq rfl
  · exact absurd rfl e
theorem x_Try (T : KF P w K mg base) : ∃ fd, FnOk P w K mg base (L2.CX P w) 5 (ma K (ga K "Try") "__init__") fd ["self", "line", "mate"] (spDTry K) ∧ KBn K fd ["self", "line", "mate"] 1 ["mate", "line"] (fun us ws => us ++ Kw.sel [1, 0] ws) gVx ∧ Mk K (ga K "Try") (ma K (ga K "Try") "__init__") ∧ mg "Try" = some (.ref (ga K "Try")) := by
  obtain ⟨fd, F⟩ := T.ik ("Try", 57) (by decide)
  obtain ⟨g, _, m⟩ := T.gk ("Try", 57) (by decide)
  refine ⟨fd, ok_Try T F, ⟨fun s us ws _ h1 h2 => ?_, fun r rz => sel_rel r rz⟩, m, g⟩
  obtain ⟨oc, od, dV, kV, doc, pm, an, cdv, ct, osl, rfl, lk, hcd, hD, hK⟩ := F.ex
  rcases hD with ⟨_, rfl⟩ | ⟨e, _⟩
  · match us, ws, h1, h2 with
      | [a], [b, c], _, _ => exact .of_eq rfl
  · exact absurd rfl e
theorem x_Probe (T : KF P w K mg base) : ∃ fd, FnOk P w K mg base (L2.CX P w) 5 (ma K (ga K "Probe") "__init__") fd ["self", "line", "mate"] (spDProbe K) ∧ KBn K fd ["self", "line", "mate"] 1 ["mate", "line"] (fun us ws => us ++ Kw.sel [1, 0] ws) gVx ∧ Mk K (ga K "Probe") (ma K (ga K "Probe") "__init__") ∧ mg "Probe" = some (.ref (ga K "Probe")) := by
  obtain ⟨fd, F⟩ := T.ik ("Probe", 58) (by decide)
  obtain ⟨g, _, m⟩ := T.gk ("Probe", 58) (by decide)
  refine ⟨fd, ok_Probe T F, ⟨fun s us ws _ h1 h2 => ?_, fun r rz => sel_rel r rz⟩, m, g⟩
  obtain ⟨oc, od, dV, kV, doc, pm, an, cdv, ct, osl, rfl, lk, hcd, hD, hK⟩ := F.ex
  rcases hD with ⟨_, rfl⟩ | ⟨e, _⟩
  · match us, ws, h1, h2 with
      | [a], [b, c], _, _ => exact .of_eq rfl
  · exact absurd rfl e
theorem x_Meet (T : KF P w K mg base) : ∃ fd, FnOk P w K mg base (L2.CX P w) 5 (ma K (ga K "Meet") "__init__") fd ["self", "line", "mate"] (spDMeet K) ∧ KBn K fd ["self", "line", "mate"] 1 ["mate", "line"] (fun us ws => us ++ Kw.sel [1, 0] ws) gVx ∧ Mk K (ga K "Meet") (ma K (ga K "Meet") "__init__") ∧ mg "Meet" = some (.ref (ga K "Meet")) := by
  obtain ⟨fd, F⟩ := T.ik ("Meet", 59) (by decide)
  obtain ⟨g, _, m⟩ := T.gk ("Meet", 59) (by decide)
  refine ⟨fd, ok_Meet T F, ⟨fun s us ws _ h1 h2 => ?_, fun r rz => sel_rel r rz⟩, m, g⟩
  obtain ⟨oc, od, dV, kV, doc, pm, an, cdv, ct, osl, rfl, lk, hcd, hD, hK⟩ := F.ex
  rcases hD with ⟨_, rfl⟩ | ⟨e, _⟩
  · match us, ws, h1, h2 with
      | [a], [b, c], _, _ => exact .of_eq rfl
  · exact absurd rfl e
end
end K8
set_option Elab.async false
set_option linter.all false
set_option maxRecDepth 100000
set_option maxHeartbeats 3200000
/-! set(xs), xs a list of ints: the set as sorted wants it. -/
namespace Oo
open PySem PySem.Spec PyProof.Rows L2 PySem.W PyProof
section
variable {prog : Program} {w : World} {A : Around} {E : Value → Shared → Prop} {s : Shared}
/-- a type's call by its two codes -/
theorem call_two {T newId initId : String} {args : List Value} {Q Q₁ : Value → Shared → Prop} (ft : TypeCalled T newId initId) (hct : checkTypeCall T ⟨args, []⟩ = pure ())
    (hnew : codeAny (model prog w) A.in1 (.call (.builtin newId) ⟨.type T :: args, []⟩) (wants Q₁ E) s)
    (hnext : ∀ obj s₁, Q₁ obj s₁ → s₁.TypeIs obj T ∧ codeAny (model prog w) A.in1 (.call (.builtin initId) ⟨obj :: args, []⟩) (wants (fun r s₂ => r = .none ∧ Q obj s₂) E) s₁) :
    wpAny (model prog w) A (call (.type T) args) Q E s := by
  obtain ⟨c, tl, hmro⟩ := ft.mro
  have hmade := ft.made
  have hsub := ft.sub
  refine wpAny_call (codeAny_of_tree ?_)
  show wpAny _ _ (callAny (.type T) _) _ _ _
  refine wpAny_pure ⟨Code.quiet_builtin _ (by decide +kernel), codeAny_builtin F.entry_type_call ?_⟩
  rw [Around.under_plain (weight_type_call_type T args []) rfl]
  have h1 := ft.notType
  have h2 := ft.canCreate
  repeat (any_goals (first | assumption | wp_step))
  refine codeAny_mono hnew fun r s₁ hr => ?_
  match r, hr with
  | .error e, hr => exact hr
  | .ok (.ret obj), hr =>
    obtain ⟨hT, hc⟩ := hnext _ _ hr
    have hli := ft.init.lookup
    have hbi := ft.init.bind obj
    repeat (any_goals (first | assumption | wp_step))
    refine codeAny_mono hc fun r₂ s₂ hr₂ => ?_
    match r₂, hr₂ with
    | .error e, hr₂ => exact hr₂
    | .ok (.ret r), hr₂ =>
      obtain ⟨rfl, hq⟩ := hr₂
      repeat (any_goals (first | assumption | wp_step))
/-- an empty set -/
abbrev eSet (w : World) : Obj := { cls := .type "set", dict := none, data := .set #[] 0 (.fresh 0 0 (!w.params.followText "set-order")) }
theorem set_ints {l : Addr} {items : Array Value} (ns : List Int) {Q : Value → Shared → Prop} (hh : A.handled = none) (hl : s.heap.IsList l items) (hit : IntsAre items.toList ns) (hb : ns.length + 1 < scanBound)
    (h : ∀ (h' : Heap) (tk c : Nat), SetR w h' s.heap.objs.size (fun j => decide (j ∈ ns)) c → c ≤ ns.length → (∀ b o, s.heap.get? b = some o → h'.get? b = some o) → Q (.ref s.heap.objs.size) { s with heap := h', toks := tk }) :
    wpAny (model prog w) A (call (.type "set") [.ref l]) Q E s := by
  have sz : items.size = ns.length := by
    have q := IntsAre.length hit
    rw [Array.length_toList] at q
    exact q
  refine call_two F.called_set (F.typeCall_set_1 (.ref l)) (code_set_led1 (.ref l) (Q₁ := fun obj s₁ => obj = .ref s.heap.objs.size ∧ s₁ = { s with heap := s.heap.push (eSet w) }) ⟨rfl, rfl⟩) fun obj s₁ ⟨e1, e2⟩ => ?_
  subst e1 e2
  have at0 : (s.heap.push (eSet w)).get? s.heap.objs.size = some (eSet w) := Heap.get?_push_size _ rfl
  have size1 : (s.heap.push (eSet w)).objs.size = s.heap.objs.size + 1 := Heap.size_push ..
  obtain ⟨ol, hol, hcl, nl, hdl⟩ := id hl
  have low : l < s.heap.objs.size := Heap.lt_size hol
  have hl1 : (s.heap.push (eSet w)).IsList l items := hl.push _
  have lt1 : Shared.TypeIs { s with heap := s.heap.push (eSet w) } (.ref l) "list" := hl1.typeIs
  refine ⟨⟨_, at0, rfl⟩, ?_⟩
  refine codeAny_mono (codeAny_call_builtin (R := wants (fun r s₂ => r = .none ∧ Q (.ref s.heap.objs.size) s₂) E) F.called_set.init.plain F.entry_set_init (check_set_init_1 ⟨_, at0, rfl⟩ ?_)) fun r s₂ hr => hr
  obtain ⟨ocls, od, odt, osl⟩ := ol
  simp only at hcl hdl
  subst hcl
  subst hdl
  have hol1 := Heap.get?_push_of_some (eSet w) hol
  have e1 := F.sub_list_set
  have e2 := F.sub_list_frozenset
  have e3 : (Value.type "list" == Value.type "dict") = false := by decide
  unfold Builtin.«set.__init__» noKeywords Builtin.Frozenset.updateFrom
  generalize hPI : pyIter = PI
  wp_walk
  subst hPI
  refine wpAny_pyIter_list hl1 ?_
  refine wpAny_bind (wpAny_runValue ?_)
  have h3 : A.in1.in1.in1.handled = none := by simp [hh]
  have it0 : (s.heap.push (eSet w)).objs.size = s.heap.objs.size + 1 := size1
  have nI : l ≠ (s.heap.push (eSet w)).objs.size := fun z => by
    have z : l = s.heap.objs.size + 1 := z.trans size1
    exact absurd low (by rw [z]; exact Nat.not_lt.mpr (Nat.le_succ _))
  have out : s.heap.objs.size ∉ [(s.heap.push (eSet w)).objs.size, l] := fun z => by
    rcases List.mem_cons.mp z with z | z
    · have z : s.heap.objs.size = s.heap.objs.size + 1 := z.trans size1
      exact absurd z (Nat.ne_of_lt (Nat.lt_succ_self _))
    · have z := List.mem_singleton.mp z
      exact absurd low (by rw [← z]; exact Nat.lt_irrefl _)
  have val : ∀ (i : Nat) (v : Value), items[i]? = some v → ∃ k t, ns[i]? = some k ∧ v = .int k t := fun i v hv => by
    have lt : i < ns.length := by rw [← sz]; exact (Array.getElem?_eq_some_iff.mp hv).1
    obtain ⟨t, e⟩ := PyProof.Rows.IntsAre.int_at hit i v (by rw [Array.getElem?_toList]; exact hv)
    have g : ns[i]? = some (ns.getD i 0) := by rw [List.getD_eq_getElem?_getD, List.getElem?_eq_getElem lt]; rfl
    exact ⟨_, t, g, e⟩
  refine set_update_ints ((Walks.list h3 _ l nI items).toS) s.heap.objs.size out ns sz hb val items.size 0 _ (Nat.sub_zero _) (Nat.zero_le _) ⟨⟨_, Heap.get?_push_size _ rfl, rfl, rfl⟩, hl1.push _⟩ ⟨0, Nat.le_refl 0, setR_new_at (Heap.get?_push_of_some _ at0)⟩ fun s' c' hm hc' hS' => ?_
  obtain ⟨h', g2, d', tk', os'⟩ := s'
  obtain rfl : g2 = s.gens := hm.gens
  obtain rfl : d' = s.drawn := hm.drawn
  obtain rfl : os' = s.os := hm.os
  show wpAny _ _ _ _ _ _
  refine wpAny_pure ?_
  show wpAny _ _ (ret Value.none) _ _ _
  refine wpAny_pure ⟨rfl, h h' tk' c' hS' (by rw [← sz]; exact hc') fun b o e => ?_⟩
  have hb0 : b < s.heap.objs.size := Heap.lt_size e
  refine hm.heap b o (fun z => ?_) (Heap.get?_push_of_some _ (Heap.get?_push_of_some _ e))
  rcases List.mem_cons.mp z with z | z
  · exact absurd z (Nat.ne_of_lt hb0)
  · have z : b = s.heap.objs.size + 1 := (List.mem_singleton.mp z).trans size1
    exact absurd hb0 (by rw [z]; exact Nat.not_lt.mpr (Nat.le_succ _))
end
/-- set(xs), xs a list of ints -/
def rSetL (X : Cx) : List V → Hp → VK → Prop := fun xs H Q => ∃ (l : Addr) (ns : List Int), xs = [.ref l] ∧ SqL X.K H l (ns.map V.int) ∧ ns.length ≤ 60 ∧ ∀ (a : Addr) (n : Nat), H a = none → n ≤ ns.length → Q (.ref a) (upd H a (SetO X.w a (fun j => decide (j ∈ ns)) n))
theorem call_setL {X : Cx} (hc : X.calm = true) : CallR X (.type "set") (rSetL X) := by
  intro pins s σ H xs us Q I r h
  obtain ⟨l, ns, rfl, hs, hn, q⟩ := h
  obtain ⟨u, rfl, ru⟩ := vals1 r
  obtain rfl : u = Value.ref l := ru
  obtain ⟨its, rv, hl, hz⟩ := I.list hs
  refine set_ints ns (I.ok.hd hc) hl.isList (by simpa using rv.ints) (by unfold scanBound; omega) fun h' tk c R le k => ?_
  exact ⟨.ref _, upd H s.heap.objs.size (SetO X.w s.heap.objs.size (fun j => decide (j ∈ ns)) c), I.laid (t' := tk) (fun b u e => k b u e) (Nat.le_refl _) (setO_new R), rfl, q _ _ (I.hok.fresh (Nat.le_refl _)) le⟩
end Oo
set_option Elab.async false
set_option linter.all false
set_option maxRecDepth 100000
set_option maxHeartbeats 4000000
/-! Draws: _law_named, _law_fix. -/
namespace K8
open PySem PySem.Spec PyProof.Rows L2 RV EV He EF EI LamX
theorem yes_go {σ : L2.St} {H : Hp} {A B : Hp → Prop} (k : A H) : tYes σ H (fun b H3 => if b = true then A H3 else B H3) := by
  show if true = true then A H else B H
  rw [if_pos rfl]
  exact k
theorem Pen.sm {H H' : Hp} {p a : Addr} {cs : List Int} {b g : Int} (N : Pen H p a cs b g) (s : Same H H') : Pen H' p a cs b g := ⟨s _ _ N.pn, s _ _ N.ce, N.b0, N.g0, N.ln⟩
theorem Pen.nw {H : Hp} {p a l : Addr} {cs : List Int} {b g : Int} {o : HO} (N : Pen H p a cs b g) (h : H l = none) : Pen (upd H l o) p a cs b g := N.sm (same_new h)
theorem sw_new {H H' : Hp} {p l : Addr} {o : HO} (s : SameW H H' p) (h : H' l = none) : SameW H (upd H' l o) p := s.tr (same_new h)
theorem Pen.lst {H : Hp} {p a D : Addr} {cs ds : List Int} {b g : Int} (N : Pen H p a cs b g) (h : H D = some (.lst (ds.map V.int))) : D ≠ p := fun e => by
  rw [e, N.pn] at h
  match ds, h with
  | [], h => cases h
  | _ :: _, h => cases h
theorem Pen.strs {H : Hp} {p a D : Addr} {cs : List Int} {ds : List Str} {b g : Int} (N : Pen H p a cs b g) (h : H D = some (.lst (ds.map V.str))) : D ≠ p := fun e => by
  rw [e, N.pn] at h
  match ds, h with
  | [], h => cases h
  | _ :: _, h => cases h
theorem Pen.tup {H : Hp} {p a D : Addr} {cs : List Int} {xs : List V} {b g : Int} (N : Pen H p a cs b g) (h : H D = some (.tup xs)) : D ≠ p := fun e => by
  rw [e, N.pn] at h
  cases h
def spLNm : Sp := fun vs H Q _ => ∃ p a cs b g most, vs = [.ref p, .int most] ∧ Pen H p a cs b g ∧ b ≤ 900 ∧ 1 ≤ most ∧ most ≤ 200 ∧
  ∀ (T : Addr) (is : List Int) (b' g' : Int) (H' : Hp), b' ≤ b + 5 → Pen H' p a cs b' g' → SameW H H' p → H' T = some (.tup (is.map V.int)) → is ≠ [] → ascB most 0 is → is.length ≤ 4 → Q (.ref T) H'
theorem asc_of {hi : Int} : ∀ {is : List Int} {l : Int}, is.Pairwise (· < ·) → (∀ i ∈ is, l + 1 ≤ i ∧ i ≤ hi) → ascB hi l is
  | [], _, _, _ => trivial
  | i :: is, l, hp, hb => by
    obtain ⟨h1, h2⟩ := List.pairwise_cons.mp hp
    have b := hb i (by simp)
    exact ⟨b.1, b.2, asc_of h2 fun j hj => ⟨by have := h1 j hj; omega, (hb j (by simp [hj])).2⟩⟩
section
variable {P : Program} {w : World} {K : PySem.W.Frag} {mg : Str → Option Value} {base : Heap}
theorem blt (T : KF P w K mg base) : Blt mg := ⟨T.fr _ (by decide), T.fr _ (by decide), T.fr _ (by decide), T.fr _ (by decide)⟩
theorem c_draw (T : KF P w K mg base) : Callee P w K mg base CX0 1 "_law_draw" ["_law_pen_here", "_law_many_here"] spDraw := by
  obtain ⟨fd, F, g⟩ := T.tops ("_law_draw", 71) (by decide)
  exact ⟨fd, ok_draw F (blt T), FunD.bindsN F fun _ _ _ _ _ _ us hl => match us, hl with | [_, _], _ => rfl, F.kp, g⟩
theorem c_pick (T : KF P w K mg base) : Callee P w K mg base CX0 2 "_law_pick" ["_law_pen_here", "_law_some"] spPick := by
  obtain ⟨fd, F, g⟩ := T.tops ("_law_pick", 72) (by decide)
  obtain ⟨fD, FD, gD⟩ := T.tops ("_law_draw", 71) (by decide)
  exact ⟨fd, ok_pick F (blt T) FD gD, FunD.bindsN F fun _ _ _ _ _ _ us hl => match us, hl with | [_, _], _ => rfl, F.kp, g⟩
abbrev scNm_N : List Str := ["_law_pen_here", "_law_most", "_law_some", "_law_turn", "_law_one"]
theorem scNm : FnScope scNm_N ["_law_pen_here", "_law_most"] (defScope (top 73)) := ⟨rfl, rfl, rfl, by decide +kernel, rfl, by decide +kernel, by decide +kernel⟩
abbrev rIntI : List V → Hp → VK → Prop := fun xs H Q => (∃ i, xs = [V.int i] ∧ Q (.int i) H) ∨ ∃ k, xs = [V.bl k] ∧ Q (.int (if k then 1 else 0)) H
theorem er_intI {σ : L2.St} {H : Hp} {ta : TE} {i : Int} (h : ER ta σ H (IsV (.int i))) : ER (tCB rIntI (tCons ta tNil)) σ H (IsV (.int i)) := h.cb fun v H1 F s e k => by
  obtain rfl := e
  exact .inl ⟨i, rfl, k _ H1 same_rfl rfl⟩
theorem c_lnm (T : KF P w K mg base) : Callee P w K mg base CX0 2 "_law_named" ["_law_pen_here", "_law_most"] spLNm := by
  obtain ⟨fd, F, g⟩ := T.tops ("_law_named", 73) (by decide)
  obtain ⟨fD, GD, bD, kD, gD⟩ := c_draw (w := w) T
  refine ⟨fd, F.ok scNm (fun vs H Q E h => ?_) (fun cdv A outer s H vs Q E hr h => ?_), FunD.bindsN F fun _ _ _ _ _ _ us hl => match us, hl with | [_, _], _ => rfl, F.kp, g⟩
  · obtain ⟨p, a, cs, b, g, most, rfl, _⟩ := h
    rfl
  · obtain ⟨p, a, cs, b, g, most, rfl, N, hb, m1, m2, k⟩ := h
    have nd := scNm.nd
    refine ⟨_, PSs.nox (pss_cons (ps_set (i := 2) nd rfl (.inl rfl) (pe_callB (cr_sortedSet rfl) (by rfl) (T.fr "sorted" (by decide)) boot_sorted (pa_cons (pe_callTy (Oo.call_setL rfl) (by rfl) (T.fr "set" (by decide)) boot_T (pa_cons
        (pe_lc (own := [("_law_turn", 3)]) (g := gName 3) (tt := tYes) (te := tOp (rI0 fun i j => V.int (i + j)) (tC (V.int 1)) (tCall spDraw [] E0 (tCons (tVar 0) (tCons (tVar 1) tNil)))) rfl nd
          (pi_range1 (by rfl) (T.fr "range" (by decide)) (pa_cons (pe_op op_add pe_int (pe_call (E := E0) GD (hr.mono (by decide)) (by rfl) gD kD bD .nil pass0 (pa_cons (pv 0) (pa_cons pe_int pa_nil)))) pa_nil)) (blkOk_by (N := scNm_N) (sc := defScope (top 73)) (by decide +kernel))
          (fun _ _ _ _ _ => pg_name (i := 3) nd rfl (.inl rfl)) (fun _ _ _ _ _ => pts_nil) (fun _ _ _ _ _ => pe_op op_add pe_int (pe_call (E := E0) GD (hr.mono (by decide)) (by rfl) gD kD bD .nil pass0 (pa_cons (pv 0) (pa_cons (pv 1) pa_nil))))) pa_nil)) pa_nil)))
      (pss_one (ps_ret (pe_callTy call_tuple_of (by rfl) (T.fr "tuple" (by decide)) boot_T (pa_cons
        (pe_lc (own := [("_law_one", 4)]) (g := gName 4) (tt := tYes) (te := tCB rIntI (tCons (tVar 4) tNil)) rfl nd (pi_list (pv 2)) (blkOk_by (N := scNm_N) (sc := defScope (top 73)) (by decide +kernel))
          (fun _ _ _ _ _ => pg_name (i := 4) nd rfl (.inl rfl)) (fun _ _ _ _ _ => pts_nil) (fun _ _ _ _ _ => pe_callTy call_int1 (by rfl) (T.fr "int" (by decide)) boot_int (pa_cons (pv 4) pa_nil))) pa_nil))))), ?_⟩
    have hs : L2.start scNm_N [.ref p, .int most] = [some (.ref p), some (.int most), none, none, none] := rfl
    rw [hs]
    refine ⟨_, rfl, p, a, cs, b, g, 4, rfl, N, by omega, by decide, by decide, fun r b1 g1 H1 r0 r1 hb1 N1 k1 => ⟨1, r, rfl, rfl, 1 + r, rfl, by omega, by omega, fun D nD => ?_⟩⟩
    have nDp : p ≠ D := ne_of_none N1.pn nD
    have nDa : a ≠ D := ne_of_none N1.ce nD
    refine lc_it (σ := [some (.ref p), some (.int most), none, none, none]) (vs := [3]) (walk_range (lo := 0) (n := (1 + r).toNat))
      (fun n H' => ∃ (ds : List Int) (b' g' : Int), ds.length = n ∧ b' ≤ b1 + n ∧ Pen H' p a cs b' g' ∧ SameW H1 H' p ∧ H' D = some (.lst (ds.map V.int)) ∧ ∀ i ∈ ds, 1 ≤ i ∧ i ≤ most)
      ⟨[], b1, g1, rfl, by omega, N1.nw nD, SameW.of (same_new nD), upd_same, fun _ h => nomatch h⟩ (fun _ _ _ _ => trivial) ?_ ?_
    · rintro n x H4 H5 hn ⟨ds, b4, g4, hl, hb4, N4, s4, hD, hR⟩ ⟨rfl, rfl⟩
      refine ⟨rfl, ?_⟩
      refine yes_go ⟨_, rfl, _, rfl, p, a, cs, b4, g4, most, rfl, N4, by omega, by omega, by omega, fun q b5 g5 H6 q0 q1 hb5 N5 k5 => ⟨1, q, rfl, rfl, ?_⟩⟩
      have hD6 : H6 D = some (.lst (ds.map V.int)) := k5 _ _ (Ne.symm nDp) hD
      refine ⟨_, hD6, by rw [List.length_map, sizeLine_eq]; omega, ds ++ [1 + q], b5, g5, by rw [List.length_append, hl]; rfl, by omega, ⟨by rw [upd_ne nDp]; exact N5.pn, by rw [upd_ne nDa]; exact N5.ce, N5.b0, N5.g0, N5.ln⟩, fun c o hc e => ?_, by rw [upd_same, List.map_append]; rfl, fun i hi => ?_⟩
      · have cD : c ≠ D := fun z => by rw [z, nD] at e; cases e
        rw [upd_ne cD]
        exact k5 _ _ hc (s4 c o hc e)
      · rcases List.mem_append.mp hi with h | h
        · exact hR i h
        · rw [List.mem_singleton.mp h]
          omega
    · rintro H4 ⟨ds, b4, g4, hl, hb4, N4, s4, hD, hR⟩
      have l5 : ds.length ≤ 4 := by omega
      have s04 : SameW H H4 p := fun c o hc e => s4 c o hc (k1 c o hc e)
      refine ⟨D, ds, rfl, SqL.of hD, by omega, fun S n nS hn => ⟨S, _, n, rfl, upd_same, by omega, fun ms L hp hm ln nL => ?_⟩⟩
      have N5 := (N4.nw (o := SetO w S (fun j => decide (j ∈ ds)) n) nS).nw (o := .lst (ms.map V.int)) nL
      have s5 : SameW H (upd (upd H4 S (SetO w S (fun j => decide (j ∈ ds)) n)) L (.lst (ms.map V.int))) p := (s04.tr (same_new nS)).tr (same_new nL)
      have mem : ∀ i ∈ ms, 1 ≤ i ∧ i ≤ most := fun i hi => hR i (of_decide_eq_true ((hm i).mp hi))
      have ne : ms ≠ [] := fun z => by
        match ds, hl with
        | [], hl =>
          have : (0 : Nat) = (1 + r).toNat := hl
          omega
        | d :: ds, _ =>
          have := (hm d).mpr (decide_eq_true (by simp))
          rw [z] at this
          cases this
      have lc := er_lcl (K := K) (σ := [some (.ref p), some (.int most), some (.ref L), none, none]) (H := upd (upd H4 S (SetO w S (fun j => decide (j ∈ ds)) n)) L (.lst (ms.map V.int))) (i := 4) (p := fun _ => true) (tt := tYes) (te := tCB rIntI (tCons (tVar 4) tNil)) (enc := V.int) (out := V.int) (ns := ms) (er_row (i := 2) rfl upd_same) (by omega) (fun _ => rfl) (fun z _ _ _ => yes_test) (fun z _ _ G s => er_intI (er_v (i := 4) rfl))
      show tCB (rTupOf K) (tCons (tLc (iList K (tVar 2)) (gName 4) tYes (tCB rIntI (tCons (tVar 4) tNil)) [4]) tNil) [some (.ref p), some (.int most), some (.ref L), none, none] _ _
      refine (ER.cb (R := AtT (ms.map V.int)) (r := rTupOf K) lc fun v H1 F s ⟨l, e, h⟩ k => ?_).go fun v H7 s7 ⟨tt, e7, h7⟩ => ?_
      · obtain rfl := e
        rw [all_yes] at h
        exact ⟨l, _, rfl, .inl ⟨SqL.of h, fun tt nt => k _ _ (same_new nt) ⟨tt, rfl, upd_same⟩⟩⟩
      · obtain rfl := e7
        exact k tt ms b4 g4 _ (by omega) (N5.sm s7) (s5.tr s7) h7 ne (asc_of hp fun i hi => ⟨by have := mem i hi; omega, (mem i hi).2⟩) (by omega)
end
end K8
set_option Elab.async false
set_option linter.all false
set_option maxRecDepth 100000
set_option maxHeartbeats 4000000
/-! _law_fix, _law_any. -/
namespace K8
open PySem PySem.Spec PyProof.Rows L2 RV EV He EF EI LamX
def DAt (H : Hp) (v : V) (k : Kd) (ns : List V) (up : V) : Prop := ∃ (A : Addr) (xs : List V), v = .ref A ∧ H A = some (.tup (.str k.word :: xs)) ∧ match k.shp with
  | .pl _ => xs = ns
  | .mg => xs = ns ++ [up]
  | .many _ => ∃ T : Addr, xs = [.ref T, up] ∧ H T = some (.tup ns)
def spFx : Sp := fun vs H Q _ => ∃ p a cs b g, vs = [.ref p] ∧ Pen H p a cs b g ∧ b ≤ 950 ∧ ∀ x b' g' H', FxO x → b' ≤ b + 1 → Pen H' p a cs b' g' → SameW H H' p → Q (.str x) H'
def spAny : Sp := fun vs H Q _ => ∃ p a cs b g, vs = [.ref p] ∧ Pen H p a cs b g ∧ b ≤ 890 ∧ ∀ v k ns up b' g' H', b' ≤ b + 15 → Pen H' p a cs b' g' → SameW H H' p → DOk k ns up → ns.length ≤ 4 → DAt H' v k ns up → Q v H'
section
variable {σ : L2.St} {H : Hp} {F : VK} {p a : Addr} {cs : List Int} {b g many : Int} {te ta tb : TE} {xs ys : List V} {K : PySem.W.Frag}
theorem pick_go (N : Pen H p a cs b g) (h0 : σ[0]? = some (some (.ref p))) (hb : b ≤ 1000) (e : ER te σ H (AtL xs)) (ne : xs ≠ []) (hz : xs.length < 1000) (hx : ∀ a r, xs ≠ V.ref a :: r)
    (k : ∀ x ∈ xs, ∀ b' g' H', b' ≤ b + 1 → Pen H' p a cs b' g' → SameW H H' p → F x H') : tCall spPick [] E0 (tCons (tVar 0) (tCons te tNil)) σ H F :=
  ⟨_, h0, e.go fun v H1 s1 ⟨l, ev, hl⟩ => by
    obtain rfl := ev
    have N1 := N.sm s1
    have nl : l ≠ p := fun z => by rw [z, N1.pn] at hl; exact hx _ _ (HO.lst.inj (Option.some.inj hl)).symm
    exact ⟨p, a, l, cs, b, g, xs, rfl, N1, hb, nl, hl, ne, hz, fun x b' g' H' hx' hb' N' kp => k x hx' b' g' H' hb' N' fun c o hc e => kp c o hc (s1 _ _ e)⟩⟩
theorem draw_go (N : Pen H p a cs b g) (h0 : σ[0]? = some (some (.ref p))) (hb : b ≤ 1000) (e : ER te σ H (IsV (.int many))) (m0 : 0 < many) (m1 : many < 1000)
    (k : ∀ r b' g' H', 0 ≤ r → r < many → b' ≤ b + 1 → Pen H' p a cs b' g' → SameW H H' p → F (.int r) H') : tCall spDraw [] E0 (tCons (tVar 0) (tCons te tNil)) σ H F :=
  ⟨_, h0, e.go fun v H1 s1 ev => by
    obtain rfl := ev
    exact ⟨p, a, cs, b, g, many, rfl, N.sm s1, hb, m0, m1, fun r b' g' H' r0 r1 hb' N' kp => k r b' g' H' r0 r1 hb' N' fun c o hc e => kp c o hc (s1 _ _ e)⟩⟩
theorem er_strsL (ss : List Str) (hz : ss.length ≤ 1000) : ER (tLst (tStrs ss)) σ H (AtL (ss.map V.str)) := fun H1 s1 F k => strs_run ⟨by rw [List.length_map, sizeLine_eq]; omega, fun q nq => k _ _ (same_new nq) ⟨q, rfl, upd_same⟩⟩
theorem er_cat (ha : ER ta σ H (AtL xs)) (hb : ER tb σ H (AtL ys)) (hz : xs.length + ys.length ≤ 100000) : ER (tOp rCat ta tb) σ H (AtL (xs ++ ys)) :=
  ha.op stb_l hb fun u v H1 F s ⟨r, e1, h1⟩ ⟨q, e2, h2⟩ k => by
    obtain rfl := e1
    obtain rfl := e2
    exact ⟨r, q, xs, ys, rfl, rfl, h1, h2, by rw [sizeLine_eq]; omega, fun n nn => k _ _ (same_new nn) ⟨n, rfl, upd_same⟩⟩
end
abbrev rListT (K : PySem.W.Frag) : List V → Hp → VK → Prop := fun xs H Q => ∃ p ys, xs = [.ref p] ∧ (SqL K H p ys ∨ SqT K H p ys) ∧ ∀ l, H l = none → Q (.ref l) (upd H l (.lst ys))
theorem er_listT {K : PySem.W.Frag} {σ : L2.St} {H : Hp} {ta : TE} {xs : List V} (ha : ER ta σ H (AtT xs)) : ER (tCB (rListT K) (tCons ta tNil)) σ H (AtL xs) := ha.cb fun v H1 F s ⟨r, e, h⟩ k => by
  obtain rfl := e
  exact ⟨r, xs, rfl, .inr (SqT.of h), fun l nl => k _ _ (same_new nl) ⟨l, rfl, upd_same⟩⟩
def words1 : List Str := ["fix", "unfix", "carry", "drop", "merge", "cut", "end", "offer", "try", "probe", "meet", "live", "rise"]
def words2 : List Str := ["down", "day", "night", "redo", "renew", "shut"]
theorem words_kd {z : Str} (h : z ∈ words1 ++ words2) : ∃ k : Kd, k.word = z := by
  have : ∀ y ∈ words1 ++ words2, ∃ k ∈ Kd.all, k.word = y := by decide
  obtain ⟨k, _, e⟩ := this z h
  exact ⟨k, e⟩
/-! what a word tells of the kind -/
theorem dk_fx {kd : Kd} {z : Str} (e : kd.word = z) (c : decide (z ∈ (["fix", "unfix"] : List Str)) = true) {x : Str} (xo : FxO x) : (∃ gs, kd.shp = .pl gs) ∧ DOk kd [.str x] .non := by
  subst e
  have hk : kd = .fix ∨ kd = .unfix := by
    revert c
    cases kd <;> decide
  rcases hk with rfl | rfl <;> exact ⟨⟨_, rfl⟩, ⟨x, rfl, xo⟩, rfl⟩
theorem dk_fl {kd : Kd} {z : Str} (e : kd.word = z) (c : decide (z ∈ (["carry", "drop"] : List Str)) = true) {x : Str} {l : Int} (xo : FxO x) (h : 1 ≤ l ∧ l ≤ 6) : (∃ gs, kd.shp = .pl gs) ∧ DOk kd [.str x, .int l] .non := by
  subst e
  have hk : kd = .carry ∨ kd = .drop := by
    revert c
    cases kd <;> decide
  rcases hk with rfl | rfl <;> exact ⟨⟨_, rfl⟩, ⟨x, l, rfl, xo, h.1, h.2⟩, rfl⟩
theorem dk_mg {kd : Kd} {z : Str} (e : kd.word = z) (c : decide (z = "merge") = true) : kd.shp = .mg ∧ ∀ (l : Int) (up : V), 1 ≤ l ∧ l ≤ 6 → (up = .non ∨ ∃ x, up = .str x ∧ FxO x) → DOk kd [.int l] up := by
  subst e
  have hk : kd = .merge := by
    revert c
    cases kd <;> decide
  subst hk
  exact ⟨rfl, fun l up h hu => ⟨⟨l, rfl, h.1, h.2⟩, hu⟩⟩
theorem dk_two {kd : Kd} {z : Str} (e : kd.word = z) (c : decide (z ∈ (["try", "probe", "meet"] : List Str)) = true) {l m : Int} (hl : 1 ≤ l ∧ l ≤ 6) (hm : 1 ≤ m ∧ m ≤ 6 ∧ m ≠ l) (d : (decide (z = "probe") || decide (l < m)) = true) : (∃ gs, kd.shp = .pl gs) ∧ DOk kd [.int l, .int m] .non := by
  subst e
  have hk : kd = .probe ∨ (decide (kd.word = "probe") = false ∧ (kd = .try_ ∨ kd = .meet_)) := by
    revert c
    clear d
    cases kd <;> decide
  rcases hk with rfl | ⟨e, hk⟩
  · exact ⟨⟨_, rfl⟩, ⟨l, m, rfl, hl.1, hl.2, hm.1, hm.2.1, hm.2.2⟩, rfl⟩
  · rw [e, Bool.false_or] at d
    have d := of_decide_eq_true d
    rcases hk with rfl | rfl <;> exact ⟨⟨_, rfl⟩, ⟨l, m, rfl, hl.1, d, hm.2.1⟩, rfl⟩
theorem dk_two' {kd : Kd} {z : Str} (e : kd.word = z) (c : decide (z ∈ (["try", "probe", "meet"] : List Str)) = true) {l m : Int} (hl : 1 ≤ l ∧ l ≤ 6) (hm : 1 ≤ m ∧ m ≤ 6 ∧ m ≠ l) (d : (decide (z = "probe") || decide (l < m)) = false) : (∃ gs, kd.shp = .pl gs) ∧ DOk kd [.int m, .int l] .non := by
  subst e
  obtain ⟨d1, d2⟩ := Bool.or_eq_false_iff.mp d
  have d2 := of_decide_eq_false d2
  have hk : kd = .try_ ∨ kd = .meet_ := by
    revert c d1
    clear d
    cases kd <;> decide
  rcases hk with rfl | rfl <;> exact ⟨⟨_, rfl⟩, ⟨m, l, rfl, hm.1, by omega, hl.2⟩, rfl⟩
theorem dk_many {kd : Kd} {z : Str} (e : kd.word = z) (c : decide (z ∈ (["rise", "night", "renew"] : List Str)) = true) : (∃ f, kd.shp = .many f) ∧ (1 ≤ kd.most ∧ kd.most ≤ 200) ∧ ∀ (is : List Int) (up : V), is ≠ [] → is.length ≤ 60 → ascB kd.most 0 is → (up = .non ∨ ∃ i ∈ is.dropLast, up = .int i) → DOk kd (is.map V.int) up := by
  subst e
  have hk : kd = .rise ∨ kd = .night ∨ kd = .renew := by
    revert c
    cases kd <;> decide
  rcases hk with rfl | rfl | rfl <;> exact ⟨⟨_, rfl⟩, by decide, fun is up a b c d => ⟨is, rfl, a, b, c, d⟩⟩
theorem dk_most {kd : Kd} {z : Str} (e : kd.word = z) : kd.most = if decide (z = "renew") = true then 200 else 6 := by subst e; cases kd <;> rfl
theorem dk_day {kd : Kd} {z : Str} (e : kd.word = z) (c : decide (z ∈ (["redo", "shut"] : List Str)) = true) {d : Int} (h : 1 ≤ d ∧ d ≤ 200) : (∃ gs, kd.shp = .pl gs) ∧ DOk kd [.int d] .non := by
  subst e
  have hk : kd = .redo ∨ kd = .shut := by
    revert c
    cases kd <;> decide
  rcases hk with rfl | rfl <;> exact ⟨⟨_, rfl⟩, ⟨d, rfl, h.1, h.2⟩, rfl⟩
theorem dk_cut {kd : Kd} {z : Str} (e : kd.word = z) (c : decide (z = "cut") = true) : (∃ gs, kd.shp = .pl gs) ∧ DOk kd [] .non := by
  subst e
  have hk : kd = .cut := by
    revert c
    cases kd <;> decide
  subst hk
  exact ⟨⟨_, rfl⟩, rfl, rfl⟩
theorem dk_line {kd : Kd} {z : Str} (e : kd.word = z) (c1 : decide (z ∈ (["fix", "unfix"] : List Str)) = false) (c2 : decide (z ∈ (["carry", "drop"] : List Str)) = false) (c3 : decide (z = "merge") = false) (c4 : decide (z ∈ (["try", "probe", "meet"] : List Str)) = false)
    (c5 : decide (z ∈ (["rise", "night", "renew"] : List Str)) = false) (c6 : decide (z ∈ (["redo", "shut"] : List Str)) = false) (c7 : decide (z = "cut") = false) {l : Int} (h : 1 ≤ l ∧ l ≤ 6) : (∃ gs, kd.shp = .pl gs) ∧ DOk kd [.int l] .non := by
  subst e
  have hk : kd = .end_ ∨ kd = .offer ∨ kd = .live ∨ kd = .down ∨ kd = .day := by
    revert c1 c2 c3 c4 c5 c6 c7
    cases kd <;> decide
  rcases hk with rfl | rfl | rfl | rfl | rfl <;> exact ⟨⟨_, rfl⟩, ⟨l, rfl, h.1, h.2⟩, rfl⟩
def fxs : List Str := ["f", "g", "to", "abcdefgh", "z", "fix", "rise"]
theorem fxs_ok : ∀ x ∈ fxs, FxO x := fun x hx => by
  have h1 := (by decide +kernel : ∀ x ∈ fxs, isFixB x = true) x hx
  have h2 := wOk_of ((by decide +kernel : ∀ x ∈ fxs, wOkB x = true) x hx)
  exact ⟨h1, h2.1, h2.2⟩
section
variable {P : Program} {w : World} {K : PySem.W.Frag} {mg : Str → Option Value} {base : Heap}
theorem scFx : FnScope ["_law_pen_here"] ["_law_pen_here"] (defScope (top 74)) := ⟨rfl, rfl, rfl, by decide +kernel, rfl, by decide +kernel, by decide +kernel⟩
theorem c_fx (T : KF P w K mg base) : Callee P w K mg base CX0 3 "_law_fix" ["_law_pen_here"] spFx := by
  obtain ⟨fd, F, gg⟩ := T.tops ("_law_fix", 74) (by decide)
  obtain ⟨fI, GI, bI, kI, gI⟩ := c_pick (w := w) T
  refine ⟨fd, F.ok scFx (fun vs H Q E h => ?_) (fun cdv A outer s H vs Q E hr h => ?_), FunD.bindsN F fun _ _ _ _ _ _ us hl => match us, hl with | [_], _ => rfl, F.kp, gg⟩
  · obtain ⟨p, a, cs, b, g, rfl, _⟩ := h
    rfl
  · obtain ⟨p, a, cs, b, g, rfl, N, hb, k⟩ := h
    refine ⟨_, PSs.nox (pss_one (ps_ret (pe_call (E := E0) GI (hr.mono (by decide)) (by rfl) gI kI bI .nil pass0 (pa_cons (pv 0) (pa_cons (pe_lst (pa_cons pe_str (pa_cons pe_str (pa_cons pe_str (pa_cons pe_str (pa_cons pe_str (pa_cons pe_str (pa_cons pe_str pa_nil)))))))) pa_nil))))), ?_⟩
    have hs : L2.start ["_law_pen_here"] [.ref p] = [some (.ref p)] := rfl
    rw [hs]
    refine pick_go (xs := (["f", "g", "to", "abcdefgh", "z", "fix", "rise"] : List Str).map V.str) N rfl (by omega) (er_strsL ["f", "g", "to", "abcdefgh", "z", "fix", "rise"] (by decide)) (by decide) (by decide) (fun _ _ z => nomatch z) fun x hx b' g' H' hb' N' s' => ?_
    obtain ⟨y, hy, rfl⟩ := List.mem_map.mp hx
    exact k y b' g' H' (fxs_ok y hy) hb' N' s'
abbrev scAn_N : List Str := ["_law_pen_here", "_law_words", "_law_word", "_law_line", "_law_other", "_law_some"]
theorem scAn : FnScope scAn_N ["_law_pen_here"] (defScope (top 75)) := ⟨rfl, rfl, rfl, by decide +kernel, rfl, by decide +kernel, by decide +kernel⟩
theorem c_any (T : KF P w K mg base) : Callee P w K mg base CX0 4 "_law_any" ["_law_pen_here"] spAny := by
  obtain ⟨fd, F, gg⟩ := T.tops ("_law_any", 75) (by decide)
  obtain ⟨fI, GI, bI, kI, gI⟩ := c_pick (w := w) T
  obtain ⟨fD, GD, bD, kD, gD⟩ := c_draw (w := w) T
  obtain ⟨fX, GX, bX, kX, gX⟩ := c_fx (w := w) T
  obtain ⟨fN, GN, bN, kN, gN⟩ := c_lnm (w := w) T
  refine ⟨fd, F.ok scAn (fun vs H Q E h => ?_) (fun cdv A outer s H vs Q E hr h => ?_), FunD.bindsN F fun _ _ _ _ _ _ us hl => match us, hl with | [_], _ => rfl, F.kp, gg⟩
  · obtain ⟨p, a, cs, b, g, rfl, _⟩ := h
    rfl
  · obtain ⟨p, a, cs, b, g, rfl, N, hb, k⟩ := h
    have nd := scAn.nd
    refine ⟨_, PSs.nox (pss_cons (ps_set (i := 1) nd rfl (.inl rfl) (pe_lst (pa_cons pe_str (pa_cons pe_str (pa_cons pe_str (pa_cons pe_str (pa_cons pe_str (pa_cons pe_str (pa_cons pe_str (pa_cons pe_str (pa_cons pe_str (pa_cons pe_str (pa_cons pe_str (pa_cons pe_str (pa_cons pe_str pa_nil)))))))))))))))
      (pss_cons (ps_set (i := 2) nd rfl (.inl rfl) (pe_call (E := E0) GI (hr.mono (by decide)) (by rfl) gI kI bI .nil pass0 (pa_cons (pv 0) (pa_cons (pe_op op_cat (pv 1) (pe_lst (pa_cons pe_str (pa_cons pe_str (pa_cons pe_str (pa_cons pe_str (pa_cons pe_str (pa_cons pe_str pa_nil)))))))) pa_nil))))
      (pss_cons (ps_set (i := 3) nd rfl (.inl rfl) (pe_op op_add pe_int (pe_call (E := E0) GD (hr.mono (by decide)) (by rfl) gD kD bD .nil pass0 (pa_cons (pv 0) (pa_cons pe_int pa_nil)))))
      (pss_cons (ps_if (pt_cmpR op_in_seq (pv 2) (pe_tup (pa_cons pe_str (pa_cons pe_str pa_nil))) rfl) (pss_one (ps_ret (pe_tup (pa_cons (pv 2) (pa_cons (pe_call (E := E0) GX (hr.mono (by decide)) (by rfl) gX kX bX .nil pass0 (pa_cons (pv 0) pa_nil)) pa_nil))))) pss_nil)
      (pss_cons (ps_if (pt_cmpR op_in_seq (pv 2) (pe_tup (pa_cons pe_str (pa_cons pe_str pa_nil))) rfl) (pss_one (ps_ret (pe_tup (pa_cons (pv 2) (pa_cons (pe_call (E := E0) GX (hr.mono (by decide)) (by rfl) gX kX bX .nil pass0 (pa_cons (pv 0) pa_nil)) (pa_cons (pv 3) pa_nil)))))) pss_nil)
      (pss_cons (ps_if (pt_cmpR op_eq (pv 2) pe_str (nomark _)) (pss_one (ps_ret (pe_tup (pa_cons (pv 2) (pa_cons (pv 3) (pa_cons (pe_call (E := E0) GI (hr.mono (by decide)) (by rfl) gI kI bI .nil pass0 (pa_cons (pv 0) (pa_cons (pe_lst (pa_cons pe_non (pa_cons (pe_call (E := E0) GX (hr.mono (by decide)) (by rfl) gX kX bX .nil pass0 (pa_cons (pv 0) pa_nil)) pa_nil))) pa_nil))) pa_nil)))))) pss_nil)
      (pss_cons (ps_if (pt_cmpR op_in_seq (pv 2) (pe_tup (pa_cons pe_str (pa_cons pe_str (pa_cons pe_str pa_nil)))) rfl) (pss_cons (ps_set (i := 4) nd rfl (.inl rfl) (pe_op op_add pe_int (pe_op op_mod (pe_callTy call_int1 (by rfl) (T.fr "int" (by decide)) boot_int (pa_cons (pe_op op_add (pv 3) (pe_call (E := E0) GD (hr.mono (by decide)) (by rfl) gD kD bD .nil pass0 (pa_cons (pv 0) (pa_cons pe_int pa_nil)))) pa_nil)) pe_int)))
          (pss_one (ps_ret (pe_ifExp (PW.pt (pw_or (pt_cmpR op_eq (pv 2) pe_str (nomark _)) (pw_or1 (pt_cmpR op_lt (pv 3) (pv 4) (nomark _))))) (pe_tup (pa_cons (pv 2) (pa_cons (pv 3) (pa_cons (pv 4) pa_nil)))) (pe_tup (pa_cons (pv 2) (pa_cons (pv 4) (pa_cons (pv 3) pa_nil)))))))) pss_nil)
      (pss_cons (ps_if (pt_cmpR op_in_seq (pv 2) (pe_tup (pa_cons pe_str (pa_cons pe_str (pa_cons pe_str pa_nil)))) rfl) (pss_cons (ps_set (i := 5) nd rfl (.inl rfl) (pe_call (E := E0) GN (hr.mono (by decide)) (by rfl) gN kN bN .nil pass0 (pa_cons (pv 0) (pa_cons (pe_ifExp (pt_cmpR op_eq (pv 2) pe_str (nomark _)) pe_int pe_int) pa_nil))))
          (pss_one (ps_ret (pe_tup (pa_cons (pv 2) (pa_cons (pv 5) (pa_cons (pe_call (E := E0) GI (hr.mono (by decide)) (by rfl) gI kI bI .nil pass0 (pa_cons (pv 0) (pa_cons (pe_op op_cat (pe_lst (pa_cons pe_non pa_nil)) (pe_callTy call_list_of (by rfl) (T.fr "list" (by decide)) boot_list (pa_cons (pe_slice sl_tup (pv 5) po_none (po_some (pe_un un_neg pe_int))) pa_nil))) pa_nil))) pa_nil))))))) pss_nil)
      (pss_cons (ps_if (pt_cmpR op_in_seq (pv 2) (pe_tup (pa_cons pe_str (pa_cons pe_str pa_nil))) rfl) (pss_one (ps_ret (pe_tup (pa_cons (pv 2) (pa_cons (pe_op op_add pe_int (pe_call (E := E0) GI (hr.mono (by decide)) (by rfl) gI kI bI .nil pass0 (pa_cons (pv 0) (pa_cons (pe_lst (pa_cons pe_int (pa_cons pe_int (pa_cons (pe_call (E := E0) GD (hr.mono (by decide)) (by rfl) gD kD bD .nil pass0 (pa_cons (pv 0) (pa_cons pe_int pa_nil))) pa_nil)))) pa_nil)))) pa_nil))))) pss_nil)
      (pss_one (ps_ret (pe_ifExp (pt_cmpR op_eq (pv 2) pe_str (nomark _)) (pe_tup (pa_cons (pv 2) pa_nil)) (pe_tup (pa_cons (pv 2) (pa_cons (pv 3) pa_nil))))))))))))))), ?_⟩
    have hs : L2.start scAn_N [.ref p] = [some (.ref p), none, none, none, none, none] := rfl
    rw [hs]
    refine ER.asg (i := 1) (er_strsL words1 (by decide)) fun v H1 s1 ⟨L, e, hL⟩ => ?_
    obtain rfl := e
    have N1 := N.sm s1
    refine pick_go (xs := (words1.map V.str) ++ words2.map V.str) N1 rfl (by omega) (er_cat (er_row (i := 1) rfl hL) (er_strsL words2 (by decide)) (by decide)) (by decide) (by decide) (fun _ _ z => nomatch z) fun x hx b2 g2 H2 hb2 N2 s2 => ?_
    obtain ⟨z, hz, rfl⟩ : ∃ z, z ∈ words1 ++ words2 ∧ V.str z = x := by
      rw [← List.map_append] at hx
      exact List.mem_map.mp hx
    obtain ⟨kd, rfl⟩ := words_kd hz
    generalize hzz : kd.word = z
    have s02 : SameW H H2 p := fun c o hc e => s2 c o hc (s1 _ _ e)
    refine draw_go (many := 6) N2 rfl (by omega) er_c (by decide) (by decide) fun r b3 g3 H3 r0 r6 hb3 N3 s3 => ⟨1, r, rfl, rfl, ?_⟩
    have s03 := s02.trans s3
    have z2 : ∀ ss : List Str, ss.length ≤ 1000 → ∀ {H'}, TestR (tTest (tOp (rIn K false) (tVar 2) (tTup (tStrs ss)))) [some (.ref p), some (.ref L), some (.str z), some (.int (1 + r)), none, none] H' (decide (z ∈ ss)) := fun ss h {H'} => in_t (K := K) (i := 2) rfl h
    show tSeq _ _ _ [some (.ref p), some (.ref L), some (.str z), some (.int (1 + r)), none, none] H3
    have l1 : 1 ≤ 1 + r ∧ 1 + r ≤ 6 := by omega
    -- what is told of the plain ones
    have plain : ∀ (ns : List V) (A : Addr) (b' g' : Int) (H' : Hp), (∃ gs, kd.shp = .pl gs) ∧ DOk kd ns .non → ns.length ≤ 4 → b' ≤ b + 15 → Pen H' p a cs b' g' → SameW H H' p → H' A = some (.tup (.str z :: ns)) → Q (.ref A) H' := fun ns A b' g' H' ⟨⟨gs, hg⟩, ok⟩ h4 hb' N' s' hA =>
      k _ kd ns .non b' g' H' hb' N' s' ok h4 ⟨A, ns, rfl, by rw [hzz]; exact hA, by rw [hg]⟩
    refine TestR.then (z2 ["fix", "unfix"] (by decide)) (fun c H4 s4 => ?_) (fun c4 H4 s4 => ?_)
    · refine ⟨_, rfl, _, rfl, p, a, cs, b3, g3, rfl, N3.sm s4, by omega, fun x b5 g5 H5 xo hb5 N5 s5 => ⟨by show 2 ≤ sizeLine; rw [sizeLine_eq]; decide, fun q nq => ?_⟩⟩
      exact plain [.str x] q b5 g5 _ (dk_fx hzz c xo) (by simp) (by omega) (N5.nw nq) (((s03.tr s4).trans s5).tr (same_new nq)) upd_same
    have n4 := N3.sm s4
    have s04 := s03.tr s4
    refine TestR.then (z2 ["carry", "drop"] (by decide)) (fun c H5 s5 => ?_) (fun c5 H5 s5 => ?_)
    · refine ⟨_, rfl, _, rfl, p, a, cs, b3, g3, rfl, n4.sm s5, by omega, fun x b6 g6 H6 xo hb6 N6 s6 => ⟨_, rfl, by show 3 ≤ sizeLine; rw [sizeLine_eq]; decide, fun q nq => ?_⟩⟩
      exact plain [.str x, .int (1 + r)] q b6 g6 _ (dk_fl hzz c xo l1) (by simp) (by omega) (N6.nw nq) (((s04.tr s5).trans s6).tr (same_new nq)) upd_same
    have n5 := n4.sm s5
    have s05 := s04.tr s5
    refine TestR.then (eq_strs (er_v (i := 2) rfl) er_c) (fun c H6 s6 => ?_) (fun c6 H6 s6 => ?_)
    · obtain ⟨hsh, hok⟩ := dk_mg hzz c
      refine ⟨_, rfl, _, rfl, _, rfl, _, rfl, p, a, cs, b3, g3, rfl, n5.sm s6, by omega, fun x b7 g7 H7 xo hb7 N7 s7 => ⟨by show 2 ≤ sizeLine; rw [sizeLine_eq]; decide, fun l nl => ?_⟩⟩
      have N8 := N7.nw (o := .lst [V.non, V.str x]) nl
      have lp : l ≠ p := fun e => by rw [e, N7.pn] at nl; cases nl
      refine ⟨p, a, l, cs, b7, g7, [V.non, V.str x], rfl, N8, by omega, lp, upd_same, (fun z => nomatch z), by show 2 < 1000; decide, fun y b9 g9 H9 hy hb9 N9 k9 => ⟨by show 3 ≤ sizeLine; rw [sizeLine_eq]; decide, fun q nq => ?_⟩⟩
      have s9 : SameW H H9 p := fun c o hc e => k9 c o hc ((((s05.tr s6).trans s7).tr (same_new nl)) c o hc e)
      have hu : y = .non ∨ ∃ x, y = .str x ∧ FxO x := by
        rcases List.mem_cons.mp hy with rfl | hy
        · exact .inl rfl
        · rw [List.mem_singleton.mp hy]
          exact .inr ⟨x, rfl, xo⟩
      exact k _ kd [.int (1 + r)] y b9 g9 _ (by omega) (N9.nw nq) (s9.tr (same_new nq)) (hok _ _ l1 hu) (by simp) ⟨q, [.int (1 + r), y], rfl, by rw [hzz]; exact upd_same, by rw [hsh]; rfl⟩
    have n6 := n5.sm s6
    have s06 := s05.tr s6
    refine TestR.then (z2 ["try", "probe", "meet"] (by decide)) (fun c H7 s7 => ?_) (fun c7 H7 s7 => ?_)
    · refine ⟨_, rfl, draw_go (many := 5) (n6.sm s7) rfl (by omega) er_c (by decide) (by decide) fun r2 b8 g8 H8 q0 q5 hb8 N8 s8 => ⟨1 + r, r2, rfl, rfl, .inl ⟨_, rfl, _, 6, rfl, rfl, by show (0 : Int) < 6; decide, 1, _, rfl, rfl, ?_⟩⟩⟩
      have hm : 1 ≤ 1 + (1 + r + r2) % 6 ∧ 1 + (1 + r + r2) % 6 ≤ 6 ∧ 1 + (1 + r + r2) % 6 ≠ 1 + r := by omega
      have s08 := (s06.tr s7).trans s8
      refine TestR.ifE (TestR.or (eq_strs (er_v (i := 2) rfl) er_c) (t_i0 (f := fun i j => decide (i < j)) (er_v (i := 3) rfl) (er_v (i := 4) rfl))) (fun d H9 s9 => ?_) (fun d H9 s9 => ?_)
      · exact ⟨_, rfl, _, rfl, _, rfl, by show 3 ≤ sizeLine; rw [sizeLine_eq]; decide, fun q nq => plain _ q b8 g8 _ (dk_two hzz c l1 hm d) (by simp) (by omega) ((N8.sm s9).nw nq) ((s08.tr s9).tr (same_new nq)) upd_same⟩
      · exact ⟨_, rfl, _, rfl, _, rfl, by show 3 ≤ sizeLine; rw [sizeLine_eq]; decide, fun q nq => plain _ q b8 g8 _ (dk_two' hzz c l1 hm d) (by simp) (by omega) ((N8.sm s9).nw nq) ((s08.tr s9).tr (same_new nq)) upd_same⟩
    have n7 := n6.sm s7
    have s07 := s06.tr s7
    refine TestR.then (z2 ["rise", "night", "renew"] (by decide)) (fun c H8 s8 => ?_) (fun c8 H8 s8 => ?_)
    · obtain ⟨⟨f, hsh⟩, mb, hok⟩ := dk_many hzz c
      have n8 := n7.sm s8
      have s08 := s07.tr s8
      have le : ER (tIf (tTest (tOp rEq (tVar 2) (tC (V.str "renew")))) (tC (V.int 200)) (tC (V.int 6))) [some (.ref p), some (.ref L), some (.str z), some (.int (1 + r)), none, none] H8 (IsV (.int kd.most)) := by
        rw [dk_most hzz]
        exact er_ifE (eq_strs (er_v (i := 2) rfl) er_c) (fun c => by rw [if_pos c]; exact er_c) (fun c => by rw [if_neg (by rw [c]; exact Bool.false_ne_true)]; exact er_c)
      refine ⟨_, rfl, le.go fun v H9 s9 e => ?_⟩
      obtain rfl := e
      refine ⟨p, a, cs, b3, g3, _, rfl, n8.sm s9, by omega, mb.1, mb.2, fun T is b10 g10 H10 hb10 N10 s10 hT ne asc len => ?_⟩
      have s010 := (s08.tr s9).trans s10
      have pk : ER (tOp rCat (tLst (tCons (tC V.non) tNil)) (tCB (rListT K) (tCons (tSl (rSlT K) (tVar 5) tNoPart (tPart (tUn (rU fun i => V.int (-i)) (tC (V.int 1))))) tNil))) [some (.ref p), some (.ref L), some (.str z), some (.int (1 + r)), none, some (.ref T)] H10 (AtL ([V.non] ++ is.dropLast.map V.int)) :=
        er_cat (xs := [V.non]) (fun H1 s1 F k => ⟨by show 1 ≤ sizeLine; rw [sizeLine_eq]; decide, fun q nq => k _ _ (same_new nq) ⟨q, rfl, upd_same⟩⟩) (er_listT (er_cutl (K := K) (er_var (i := 5) rfl stb_t ⟨T, rfl, hT⟩) ne)) (by rw [List.length_map, List.length_dropLast]; show 1 + (is.length - 1) ≤ 100000; omega)
      refine ⟨_, rfl, _, rfl, pick_go (xs := [V.non] ++ is.dropLast.map V.int) N10 rfl (by omega) pk (fun z => nomatch z) (by rw [List.length_append, List.length_map, List.length_dropLast]; show 1 + (is.length - 1) < 1000; omega) (fun _ _ z => nomatch z) fun y hy b11 g11 H11 hb11 N11 s11 => ⟨by show 3 ≤ sizeLine; rw [sizeLine_eq]; decide, fun q nq => ?_⟩⟩
      have hT11 := s11 _ _ (N10.tup hT) hT
      have hu : y = .non ∨ ∃ i ∈ is.dropLast, y = .int i := by
        rcases List.mem_append.mp hy with hy | hy
        · exact .inl (List.mem_singleton.mp hy)
        · obtain ⟨i, hi, rfl⟩ := List.mem_map.mp hy
          exact .inr ⟨i, hi, rfl⟩
      exact k _ kd (is.map V.int) y b11 g11 _ (by omega) (N11.nw nq) ((s010.trans s11).tr (same_new nq)) (hok is y ne (by omega) asc hu) (by rw [List.length_map]; exact len) ⟨q, [.ref T, y], rfl, by rw [hzz]; exact upd_same, by rw [hsh]; exact ⟨T, rfl, same_new nq _ _ hT11⟩⟩
    have n8 := n7.sm s8
    have s08 := s07.tr s8
    refine TestR.then (z2 ["redo", "shut"] (by decide)) (fun c H9 s9 => ?_) (fun c9 H9 s9 => ?_)
    · refine ⟨_, rfl, _, rfl, draw_go (many := 200) (n8.sm s9) rfl (by omega) er_c (by decide) (by decide) fun r2 b10 g10 H10 q0 q1 hb10 N10 s10 => ⟨by show 3 ≤ sizeLine; rw [sizeLine_eq]; decide, fun l nl => ?_⟩⟩
      have lp : l ≠ p := fun e => by rw [e, N10.pn] at nl; cases nl
      refine ⟨p, a, l, cs, b10, g10, [.int 0, .int 199, .int r2], rfl, N10.nw nl, by omega, lp, upd_same, (fun z => nomatch z), by show 3 < 1000; decide, fun y b11 g11 H11 hy hb11 N11 k11 => ?_⟩
      have hi : ∃ i : Int, y = .int i ∧ 0 ≤ i ∧ i ≤ 199 := by
        rcases List.mem_cons.mp hy with rfl | hy
        · exact ⟨0, rfl, by decide, by decide⟩
        · rcases List.mem_cons.mp hy with rfl | hy
          · exact ⟨199, rfl, by decide, by decide⟩
          · rw [List.mem_singleton.mp hy]
            exact ⟨r2, rfl, q0, by omega⟩
      obtain ⟨i, rfl, i0, i1⟩ := hi
      have s11 : SameW H H11 p := fun c o hc e => k11 c o hc ((((s08.tr s9).trans s10).tr (same_new nl)) c o hc e)
      exact ⟨1, i, rfl, rfl, by show 2 ≤ sizeLine; rw [sizeLine_eq]; decide, fun q nq => plain [.int (1 + i)] q b11 g11 _ (dk_day hzz c (by omega)) (by simp) (by omega) (N11.nw nq) (s11.tr (same_new nq)) upd_same⟩
    have n9 := n8.sm s9
    have s09 := s08.tr s9
    refine TestR.ifE (eq_strs (er_v (i := 2) rfl) er_c) (fun c H10 s10 => ?_) (fun c H10 s10 => ?_)
    · exact ⟨_, rfl, by show 1 ≤ sizeLine; rw [sizeLine_eq]; decide, fun q nq => plain [] q b3 g3 _ (dk_cut hzz c) (by simp) (by omega) ((n9.sm s10).nw nq) ((s09.tr s10).tr (same_new nq)) upd_same⟩
    · exact ⟨_, rfl, _, rfl, by show 2 ≤ sizeLine; rw [sizeLine_eq]; decide, fun q nq => plain [.int (1 + r)] q b3 g3 _ (dk_line hzz c4 c5 c6 c7 c8 c9 c l1) (by simp) (by omega) ((n9.sm s10).nw nq) ((s09.tr s10).tr (same_new nq)) upd_same⟩
end
end K8
set_option Elab.async false
set_option linter.all false
set_option maxRecDepth 100000
set_option maxHeartbeats 4000000
/-! _law_text. -/
namespace K8
open PySem PySem.Spec PyProof.Rows L2 RV EV He EF EI LamX
def wt (ws : List Str) : Nat := (ws.map (·.length)).sum + ws.length
abbrev rJn (K : PySem.W.Frag) : V → List V → Hp → VK → Prop := fun x xs H Q => ∃ a p, ∃ ys : List Str, x = .str a ∧ xs = [.ref p] ∧ (SqL K H p (ys.map V.str) ∨ SqT K H p (ys.map V.str)) ∧ (ys.map (·.length)).sum + ys.length * a.length ≤ 16777216 ∧ Q (.str (Txt.join a ys)) H
theorem join_wt : ∀ (ws : List Str), ws ≠ [] → (Str.join " " ws).length + 1 = wt ws
  | [], h => absurd rfl h
  | [y], _ => by
    show y.length + 1 = _
    unfold wt
    simp
  | y :: z :: r, _ => by
    have e : Str.join " " (y :: z :: r) = y ++ " " ++ Str.join " " (z :: r) := rfl
    have h := join_wt (z :: r) (by simp)
    have e1 : (" " : Str).length = 1 := rfl
    rw [e, strLen_append, strLen_append, e1]
    have : wt (y :: z :: r) = y.length + 1 + wt (z :: r) := by
      unfold wt
      simp only [List.map_cons, List.sum_cons, List.length_cons]
      omega
    omega
theorem join_sok : ∀ (ws : List Str), (∀ x ∈ ws, SOk x) → SOk (Str.join " " ws)
  | [], _ => fun c hc => by
    have : (Str.join " " []).cps.toList = [] := rfl
    rw [this] at hc
    cases hc
  | [y], h => h y (by simp)
  | y :: z :: r, h => fun c hc => by
    have e : (Str.join " " (y :: z :: r)).cps.toList = (y.cps.toList ++ (" " : Str).cps.toList) ++ (Str.join " " (z :: r)).cps.toList := by
      show ((y.cps ++ (" " : Str).cps) ++ (Str.join " " (z :: r)).cps).toList = _
      rw [Array.toList_append, Array.toList_append]
    rw [e] at hc
    rcases List.mem_append.mp hc with h1 | h1
    · rcases List.mem_append.mp h1 with h2 | h2
      · exact h y (by simp) c h2
      · have : c = 32 := by
          have e2 : (" " : Str).cps.toList = [32] := rfl
          rw [e2] at h2
          exact List.mem_singleton.mp h2
        omega
    · exact join_sok (z :: r) (fun x hx => h x (List.mem_cons_of_mem _ hx)) c h1
theorem joinT_wt (ws : List Str) : (Txt.join " " ws).length ≤ wt ws := by
  rw [TL.join_eq]
  cases ws with
  | nil => exact Nat.zero_le _
  | cons y r =>
    have := join_wt (y :: r) (by simp)
    omega
theorem joinT_sok {ws : List Str} (h : ∀ x ∈ ws, SOk x) : SOk (Txt.join " " ws) := by
  rw [TL.join_eq]
  exact join_sok ws h
theorem er_join {K : PySem.W.Frag} {σ : L2.St} {H : Hp} {te : TE} {ys : List Str} (h : ER te σ H (AtL (ys.map V.str))) (hz : wt ys ≤ 100000) : ER (L2.tM1 (rJn K) (tC (V.str " ")) te) σ H (IsV (.str (Txt.join " " ys))) := fun H1 s1 F k =>
  ⟨⟨_, rfl⟩, h H1 s1 _ fun v H2 s2 ⟨r, e, hr⟩ => by
    obtain rfl := e
    have e1 : (" " : Str).length = 1 := rfl
    unfold wt at hz
    exact ⟨" ", r, ys, rfl, rfl, .inl (SqL.of hr), by rw [e1]; omega, k _ H2 s2 rfl⟩⟩
theorem wt_le {n : Nat} {ys : List Str} (h : ∀ y ∈ ys, y.length ≤ n) : wt ys ≤ (n + 1) * ys.length := by
  unfold wt
  induction ys with
  | nil => simp
  | cons y ys ih =>
    have h1 := h y (by simp)
    have h2 := ih fun z hz => h z (by simp [hz])
    rw [List.map_cons, List.sum_cons, List.length_cons, Nat.mul_succ]
    omega
def spTx : Sp := fun vs H Q _ => ∃ v k ns up, vs = [v] ∧ DOk k ns up ∧ DAt H v k ns up ∧ ∀ H', Same H H' → Q (.str (dTx k ns up)) H'
theorem d_cases {H : Hp} {k : Kd} {ns xs : List V} {up : V} {z : Str} (e : k.word = z) (ok : DOk k ns up) (h : match k.shp with
  | .pl _ => xs = ns
  | .mg => xs = ns ++ [up]
  | .many _ => ∃ T : Addr, xs = [.ref T, up] ∧ H T = some (.tup ns)) :
    (z ∈ (["rise", "night", "renew"] : List Str) ∧ ∃ T : Addr, xs = [.ref T, up] ∧ H T = some (.tup ns)) ∨ (z = "merge" ∧ ∃ l : Int, ns = [.int l] ∧ xs = [.int l, up]) ∨
    (z ∉ (["rise", "night", "renew", "merge"] : List Str) ∧ xs = ns ∧ up = .non ∧ ns.length ≤ 2) := by
  subst e
  cases k
  case rise => exact .inl ⟨by decide, h⟩
  case night => exact .inl ⟨by decide, h⟩
  case renew => exact .inl ⟨by decide, h⟩
  case merge =>
    obtain ⟨⟨l, rfl, _⟩, _⟩ := ok
    exact .inr (.inl ⟨by decide, l, rfl, h⟩)
  all_goals
    obtain ⟨ok, rfl⟩ := ok
    refine .inr (.inr ⟨by decide, h, rfl, ?_⟩)
  case cut => subst ok; simp
  case carry => obtain ⟨_, _, rfl, _⟩ := ok; simp
  case drop => obtain ⟨_, _, rfl, _⟩ := ok; simp
  case try_ => obtain ⟨_, _, rfl, _⟩ := ok; simp
  case meet_ => obtain ⟨_, _, rfl, _⟩ := ok; simp
  case probe => obtain ⟨_, _, rfl, _⟩ := ok; simp
  all_goals
    obtain ⟨_, rfl, _⟩ := ok
    simp
theorem deed_eq {k : Kd} {ns : List V} {up : V} {z : Str} (e : k.word = z) : deedT k ns up = [z] ++ ns.map txtV ++ (if up = .non then [] else (["to", txtV up] : List Str)) := by
  subst e
  rfl
theorem TxW.xo {v : V} (h : TxW v) : xOk (txtV v) := h.w.1
theorem joined {ys : List Str} (h : ∀ y ∈ ys, xOk y) (hz : ys.length ≤ 66) : wt ys ≤ 800 ∧ SOk (Txt.join " " ys) ∧ (Txt.join " " ys).length ≤ 800 := by
  have w := wt_le (n := 10) fun y hy => (h y hy).2
  have a : wt ys ≤ 800 := by omega
  exact ⟨a, joinT_sok fun y hy => (h y hy).1, Nat.le_trans (joinT_wt ys) a⟩
section
variable {P : Program} {w : World} {K : PySem.W.Frag} {mg : Str → Option Value} {base : Heap}
abbrev scTx_N : List Str := ["_law_deed", "_law_named_here", "_law_one", "_law_word"]
theorem scTx : FnScope scTx_N ["_law_deed"] (defScope (top 76)) := ⟨rfl, rfl, rfl, by decide +kernel, rfl, by decide +kernel, by decide +kernel⟩
theorem c_text (T : KF P w K mg base) : Callee P w K mg base CX0 1 "_law_text" ["_law_deed"] spTx := by
  obtain ⟨fd, F, gg⟩ := T.tops ("_law_text", 76) (by decide)
  refine ⟨fd, F.ok scTx (fun vs H Q E h => ?_) (fun cdv A outer s H vs Q E hr h => ?_), FunD.bindsN F fun _ _ _ _ _ _ us hl => match us, hl with | [_], _ => rfl, F.kp, gg⟩
  · obtain ⟨v, _, _, _, rfl, _⟩ := h
    rfl
  · obtain ⟨v, kd, ns, up, rfl, ok, ⟨A0, rest, rfl, hA, hsh⟩, k⟩ := h
    generalize hzz : kd.word = z at hA
    have hh := d_cases hzz ok hsh
    have zo : xOk z := hzz ▸ kd.w.1
    obtain ⟨tn, ln, hu⟩ := dok_tx ok
    have k : ∀ H', Same H H' → Q (.str (Txt.join " " ([z] ++ ns.map txtV ++ (if up = .non then [] else (["to", txtV up] : List Str))))) H' := by
      rw [← deed_eq hzz]
      exact k
    have nd := scTx.nd
    refine ⟨_, PSs.nox (pss_cons (ps_if (pt_cmpR op_in_seq (pe_ix ix_tup (pv 0) pe_int (fun _ _ => rfl)) (pe_tup (pa_cons pe_str (pa_cons pe_str (pa_cons pe_str (pa_cons pe_str pa_nil))))) rfl)
        (pss_cons (ps_set (i := 1) nd rfl (.inl rfl) (pe_ifExp (pt_cmpR op_eq (pe_ix ix_tup (pv 0) pe_int (fun _ _ => rfl)) pe_str (nomark _)) (pe_lst (pa_cons (pe_ix ix_tup (pv 0) pe_int (fun _ _ => rfl)) pa_nil)) (pe_callTy call_list_of (by rfl) (T.fr "list" (by decide)) boot_list (pa_cons (pe_ix ix_tup (pv 0) pe_int (fun _ _ => rfl)) pa_nil))))
          (pss_one (ps_ret (pe_join pe_str (pe_op op_cat (pe_op op_cat (pe_lst (pa_cons (pe_ix ix_tup (pv 0) pe_int (fun _ _ => rfl)) pa_nil))
            (pe_lc (own := [("_law_one", 2)]) (g := gName 2) (tt := tYes) (te := tCB rStrV (tCons (tVar 2) tNil)) rfl nd (pi_list (pv 1)) (blkOk_by (N := scTx_N) (sc := defScope (top 76)) (by decide +kernel))
              (fun _ _ _ _ _ => pg_name (i := 2) nd rfl (.inl rfl)) (fun _ _ _ _ _ => pts_nil) (fun _ _ _ _ _ => pe_callTy (call_or SkE.call_str_str call_str_int) (by rfl) (T.fr "str" (by decide)) boot_T (pa_cons (pv 2) pa_nil))))
            (pe_ifExp (pt_cmp (pc_notN (pe_ix ix_tup (pv 0) pe_int (fun _ _ => rfl)))) (pe_lst (pa_cons pe_str (pa_cons (pe_callTy (call_or SkE.call_str_str call_str_int) (by rfl) (T.fr "str" (by decide)) boot_T (pa_cons (pe_ix ix_tup (pv 0) pe_int (fun _ _ => rfl)) pa_nil)) pa_nil))) (pe_lst pa_nil))))))) pss_nil)
      (pss_one (ps_ret (pe_join pe_str (pe_lc (own := [("_law_word", 3)]) (g := gName 3) (tt := tYes) (te := tCB rStrV (tCons (tVar 3) tNil)) rfl nd (pi_tup (pv 0)) (blkOk_by (N := scTx_N) (sc := defScope (top 76)) (by decide +kernel))
              (fun _ _ _ _ _ => pg_name (i := 3) nd rfl (.inl rfl)) (fun _ _ _ _ _ => pts_nil) (fun _ _ _ _ _ => pe_callTy (call_or SkE.call_str_str call_str_int) (by rfl) (T.fr "str" (by decide)) boot_T (pa_cons (pv 3) pa_nil))))))), ?_⟩
    have hs : L2.start scTx_N [.ref A0] = [some (.ref A0), none, none, none] := rfl
    rw [hs]
    have dA : ∀ {H'} {a1 : Option V}, Same H H' → ER (tVar 0) [some (.ref A0), a1, none, none] H' (AtT (.str z :: rest)) := fun {H'} {a1} s => er_var (i := 0) rfl stb_t ⟨A0, rfl, s _ _ hA⟩
    have d0 : ∀ {H'} {a1 : Option V}, Same H H' → ER (tOp (rIxT K) (tVar 0) (tC (V.int 0))) [some (.ref A0), a1, none, none] H' (IsV (.str z)) := fun s => er_ixT (dA s) (atI_nat (j := 0) rfl) er_c
    refine TestR.then (in_strs (K := K) (neg := false) (ss := ["rise", "night", "renew", "merge"]) (d0 same_rfl) (by decide)) (fun c H1 s1 => ?_) (fun c H1 s1 => ?_)
    · have c : z ∈ (["rise", "night", "renew", "merge"] : List Str) := of_decide_eq_true c
      -- the named, and the stop
      have named : (∀ {H'} {a1 : Option V}, Same H H' → ER (tOp (rIxT K) (tVar 0) (tC (V.int 2))) [some (.ref A0), a1, none, none] H' (IsV up)) ∧
          ER (tIf (tTest (tOp rEq (tOp (rIxT K) (tVar 0) (tC (V.int 0))) (tC (V.str "merge")))) (tLst (tCons (tOp (rIxT K) (tVar 0) (tC (V.int 1))) tNil)) (tCB (rListT K) (tCons (tOp (rIxT K) (tVar 0) (tC (V.int 1))) tNil))) [some (.ref A0), none, none, none] H1 (AtL ns) := by
        rcases hh with ⟨hz, T', rfl, hT⟩ | ⟨rfl, l, rfl, rfl⟩ | ⟨hz, _⟩
        · refine ⟨fun s => er_ixT (dA s) (atI_nat (j := 2) rfl) er_c, ?_⟩
          refine er_ifE (eq_strs (d0 s1) er_c) (fun c => ?_) (fun c => ?_)
          · have := of_decide_eq_true c
            rw [this] at hz
            exact absurd hz (by decide)
          · have e1 : ER (tOp (rIxT K) (tVar 0) (tC (V.int 1))) [some (.ref A0), none, none, none] H1 (AtT ns) := fun H2 s2 F q => er_ixT (K := K) (y := .ref T') (dA s1) (atI_nat (j := 1) rfl) er_c H2 s2 F fun u H3 s3 e => q u H3 s3 ⟨T', e, s3 _ _ (s2 _ _ (s1 _ _ hT))⟩
            exact er_listT e1
        · refine ⟨fun s => er_ixT (dA s) (atI_nat (j := 2) rfl) er_c, ?_⟩
          refine er_ifE (eq_strs (d0 s1) er_c) (fun c => ?_) (fun c => absurd rfl (of_decide_eq_false c))
          exact fun H2 s2 F q => er_ixT (K := K) (y := .int l) (dA s1) (atI_nat (j := 1) rfl) er_c H2 s2 _ fun u H3 s3 e => ⟨by show 1 ≤ sizeLine; rw [sizeLine_eq]; decide, fun n nn => by
            obtain rfl := e
            exact q _ _ (s3.trans (same_new nn)) ⟨n, rfl, upd_same⟩⟩
        · exact absurd c hz
      obtain ⟨eu, en⟩ := named
      refine ER.asg (i := 1) en fun v H2 s2 ⟨L, e, hL⟩ => ?_
      obtain rfl := e
      show tRet _ _ [some (.ref A0), some (.ref L), none, none] H2
      have s12 := s1.trans s2
      have lc := er_lcl (K := K) (σ := [some (.ref A0), some (.ref L), none, none]) (H := H2) (i := 2) (p := fun _ => true) (tt := tYes) (te := tCB rStrV (tCons (tVar 2) tNil)) (enc := id) (out := fun v => V.str (txtV v)) (ns := ns) (er_row (i := 1) rfl (by rw [List.map_id]; exact hL)) (by omega) (fun _ => rfl) (fun z _ _ _ => yes_test) (fun z hz _ G s => er_strV (er_v (i := 2) rfl) (tn z hz).tx)
      rw [all_yes, show (ns.map fun v => V.str (txtV v)) = (ns.map txtV).map V.str from (List.map_map ..).symm] at lc
      have l0 : ER (tLst (tCons (tOp (rIxT K) (tVar 0) (tC (V.int 0))) tNil)) [some (.ref A0), some (.ref L), none, none] H2 (AtL (([z] : List Str).map V.str)) := fun H3 s3 F q => d0 s12 H3 s3 _ fun y H4 s4 e => ⟨by show 1 ≤ sizeLine; rw [sizeLine_eq]; decide, fun n nn => by
        obtain rfl := e
        exact q _ _ (s4.trans (same_new nn)) ⟨n, rfl, upd_same⟩⟩
      have et : ER (tIf (tB (tNotN (tOp (rIxT K) (tVar 0) (tC (V.int 2))))) (tLst (tCons (tC (V.str "to")) (tCons (tCB rStrV (tCons (tOp (rIxT K) (tVar 0) (tC (V.int 2))) tNil)) tNil))) (tLst tNil)) [some (.ref A0), some (.ref L), none, none] H2 (AtL ((if up = .non then [] else (["to", txtV up] : List Str)).map V.str)) := by
        rcases hu with rfl | hu
        · rw [if_pos rfl]
          refine er_ifE (x := false) (fun H3 s3 F q => eu s12 H3 s3 _ fun y H4 s4 e => by
            obtain rfl := e
            exact ⟨_, rfl, q H4 s4⟩) (fun z => nomatch z) (fun _ => fun H3 s3 F q => ⟨by show 0 ≤ sizeLine; rw [sizeLine_eq]; decide, fun n nn => q _ _ (same_new nn) ⟨n, rfl, upd_same⟩⟩)
        · have un : up ≠ .non := fun z => by
            rcases hu with ⟨x, e, _⟩ | ⟨i, e, _⟩ <;> rw [z] at e <;> cases e
          rw [if_neg un]
          have ub : (!decide (up = V.non)) = true := by rw [decide_eq_false un]; rfl
          refine er_ifE (x := true) (fun H3 s3 F q => eu s12 H3 s3 _ fun y H4 s4 e => by
              obtain rfl := e
              exact ⟨_, rfl, by rw [ub]; exact q H4 s4⟩) (fun _ => ?_) (fun z => nomatch z)
          exact fun H3 s3 F q => er_strV (eu s12) hu.tx H3 s3 _ fun y H4 s4 e => ⟨by show 2 ≤ sizeLine; rw [sizeLine_eq]; decide, fun n nn => by
              obtain rfl := e
              exact q _ _ (s4.trans (same_new nn)) ⟨n, rfl, upd_same⟩⟩
      have to : (∀ y ∈ (if up = .non then [] else (["to", txtV up] : List Str)), xOk y) ∧ (if up = .non then [] else (["to", txtV up] : List Str)).length ≤ 2 := by
        rcases hu with rfl | hu
        · rw [if_pos rfl]
          exact ⟨(fun _ h => nomatch h), by decide⟩
        · have un : up ≠ .non := fun z => by
            rcases hu with ⟨x, e, _⟩ | ⟨i, e, _⟩ <;> rw [z] at e <;> cases e
          rw [if_neg un]
          refine ⟨fun y hy => ?_, by simp⟩
          rcases List.mem_cons.mp hy with rfl | hy
          · exact (wOk_of (by decide)).1
          · rw [List.mem_singleton.mp hy]
            exact hu.xo
      generalize (if up = .non then [] else (["to", txtV up] : List Str)) = ts at k et to
      obtain ⟨to, tl⟩ := to
      have all := er_cat (er_cat l0 lc (by rw [List.length_map, List.length_map, List.length_map]; show 1 + ns.length ≤ 100000; omega)) et (by rw [List.length_append, List.length_map, List.length_map, List.length_map, List.length_map]; show 1 + ns.length + ts.length ≤ 100000; omega)
      rw [← List.map_append, ← List.map_append] at all
      obtain ⟨j1, j2, j3⟩ := joined (ys := ([z] ++ ns.map txtV) ++ ts) (fun y hy => by
        rcases List.mem_append.mp hy with hy | hy
        · rcases List.mem_append.mp hy with hy | hy
          · rw [List.mem_singleton.mp hy]; exact zo
          · obtain ⟨v, hv, rfl⟩ := List.mem_map.mp hy
            exact (tn v hv).xo
        · exact to y hy) (by rw [List.length_append, List.length_append, List.length_map]; show 1 + ns.length + ts.length ≤ 66; omega)
      exact (er_join (K := K) all (by omega)).go fun y H5 s5 e => by
        obtain rfl := e
        exact k H5 (s12.trans s5)
    · have c : z ∉ (["rise", "night", "renew", "merge"] : List Str) := of_decide_eq_false c
      rcases hh with ⟨hz, _⟩ | ⟨rfl, _⟩ | ⟨_, rfl, rfl, rl⟩
      · exact absurd (by
          rcases List.mem_cons.mp hz with rfl | hz
          · decide
          · rcases List.mem_cons.mp hz with rfl | hz
            · decide
            · rw [List.mem_singleton.mp hz]; decide) c
      · exact absurd (by decide) c
      · have tv : ∀ v ∈ V.str z :: rest, TxV v := fun v hv => by
          rcases List.mem_cons.mp hv with rfl | hv
          · exact .inl ⟨z, rfl, Nat.le_trans zo.2 (by decide)⟩
          · exact (tn v hv).tx
        have to : ∀ v ∈ V.str z :: rest, xOk (txtV v) := fun v hv => by
          rcases List.mem_cons.mp hv with rfl | hv
          · exact zo
          · exact (tn v hv).xo
        have lc := er_lct (K := K) (σ := [some (.ref A0), none, none, none]) (H := H1) (i := 3) (p := fun _ => true) (tt := tYes) (te := tCB rStrV (tCons (tVar 3) tNil)) (enc := id) (out := fun v => V.str (txtV v)) (ns := V.str z :: rest) (by rw [List.map_id]; exact dA s1) (by rw [List.length_cons]; omega) (fun _ => rfl) (fun z _ _ _ => yes_test) (fun z hz _ G s => er_strV (er_v (i := 3) rfl) (tv z hz))
        rw [all_yes, show ((V.str z :: rest).map fun v => V.str (txtV v)) = ((V.str z :: rest).map txtV).map V.str from (List.map_map ..).symm] at lc
        obtain ⟨j1, j2, j3⟩ := joined (ys := (V.str z :: rest).map txtV) (fun y hy => by
          obtain ⟨v, hv, rfl⟩ := List.mem_map.mp hy
          exact to v hv) (by rw [List.length_map, List.length_cons]; omega)
        rw [if_pos rfl, List.append_nil] at k
        exact (er_join (K := K) lc (by omega)).go fun y H5 s5 e => by
          obtain rfl := e
          exact k H5 (s1.trans s5)
end
end K8
set_option Elab.async false
set_option linter.all false
set_option maxRecDepth 100000
set_option maxHeartbeats 4000000
/-! _law_many. -/
namespace K8
open PySem PySem.Spec PyProof.Rows L2 RV EV He EF EI LamX
theorem passL {X : Cx} : Passes (L2.CX X.prog X.w) X E0 := fun _ _ _ _ _ _ _ h => by
  obtain ⟨_, _, _, _, _, _, _, _, _, _, _, _, z⟩ := h
  exact z.elim
theorem t_isN {σ : L2.St} {H : Hp} {i : Nat} {v : V} (hi : σ[i]? = some (some v)) : TestR (tB (tIsN (tVar i))) σ H (decide (v = .non)) := fun H1 s1 F k => ⟨v, hi, _, rfl, k H1 same_rfl⟩
theorem er_rep {σ : L2.St} {H : Hp} {ta : TE} {xs : List V} {n : Nat} (ha : ER ta σ H (AtL xs)) (hz : xs.length * n ≤ 1000) (hn : n ≤ 1000) : ER (tOp rRep ta (tC (V.int (n : Nat)))) σ H (AtL (List.replicate n xs).flatten) :=
  ha.op stb_l er_c fun u v H1 F s ⟨l, e1, h1⟩ e2 k => by
    obtain rfl := e1
    obtain rfl := e2
    exact ⟨l, _, xs, rfl, rfl, h1, by omega, by omega, by rw [sizeLine_eq]; show xs.length * n ≤ _; omega, fun p np => k _ _ (same_new np) ⟨p, rfl, upd_same⟩⟩
section
variable {K : PySem.W.Frag} {σ : L2.St} {H : Hp} {k : Kd} {ns : List V} {a b c d up : V} {C : Addr} {ocs : V → List V → Option Err} {f : Str}
abbrev tUp : TA := tCons (tVar 3) tNil
theorem er_12 (hC : C = ga K k.cls) (hs : k.shp = .many f) (hoc : ocs up ns = none) (ok : DOk k ns up) (h3 : σ[3]? = some (some up)) (h4 : σ[4]? = some (some a)) (h5 : σ[5]? = some (some b)) (h : (ns = [a] ∧ b = .non) ∨ (ns = [a, b] ∧ b ≠ .non)) :
    ER (tIf (tB (tIsN (tVar 5))) (Sk.tSKK C (Sk.spSK (spMkS K C ocs f "upto")) E0 (tCons (tVar 4) tNil) tUp) (Sk.tSKK C (Sk.spSK (spMkS K C ocs f "upto")) E0 (tCons (tVar 4) (tCons (tVar 5) tNil)) tUp)) σ H (IsG K k ns up) := by
  rcases h with ⟨rfl, hb⟩ | ⟨rfl, hb⟩
  · exact er_ifE (t_isN h5) (fun _ => er_skK hC hs (era_cons (er_v h4) era_nil) (era_cons (er_v h3) era_nil) hoc ok) (fun z => absurd (decide_eq_true hb) (by rw [z]; exact Bool.false_ne_true))
  · exact er_ifE (t_isN h5) (fun z => absurd (of_decide_eq_true z) hb) (fun _ => er_skK hC hs (era_cons (er_v h4) (era_cons (er_v h5) era_nil)) (era_cons (er_v h3) era_nil) hoc ok)
theorem er_34 (hC : C = ga K k.cls) (hs : k.shp = .many f) (hoc : ocs up ns = none) (ok : DOk k ns up) (h3 : σ[3]? = some (some up)) (h4 : σ[4]? = some (some a)) (h5 : σ[5]? = some (some b)) (h6 : σ[6]? = some (some c)) (h7 : σ[7]? = some (some d)) (h : (ns = [a, b, c] ∧ d = .non) ∨ (ns = [a, b, c, d] ∧ d ≠ .non)) :
    ER (tIf (tB (tIsN (tVar 7))) (Sk.tSKK C (Sk.spSK (spMkS K C ocs f "upto")) E0 (tCons (tVar 4) (tCons (tVar 5) (tCons (tVar 6) tNil))) tUp) (Sk.tSKK C (Sk.spSK (spMkS K C ocs f "upto")) E0 (tCons (tVar 4) (tCons (tVar 5) (tCons (tVar 6) (tCons (tVar 7) tNil)))) tUp)) σ H (IsG K k ns up) := by
  rcases h with ⟨rfl, hb⟩ | ⟨rfl, hb⟩
  · exact er_ifE (t_isN h7) (fun _ => er_skK hC hs (era_cons (er_v h4) (era_cons (er_v h5) (era_cons (er_v h6) era_nil))) (era_cons (er_v h3) era_nil) hoc ok) (fun z => absurd (decide_eq_true hb) (by rw [z]; exact Bool.false_ne_true))
  · exact er_ifE (t_isN h7) (fun z => absurd (of_decide_eq_true z) hb) (fun _ => er_skK hC hs (era_cons (er_v h4) (era_cons (er_v h5) (era_cons (er_v h6) (era_cons (er_v h7) era_nil)))) (era_cons (er_v h3) era_nil) hoc ok)
end
/-- the four places of what is named -/
def pad (ns : List V) : List V := [ns.getD 0 .non, ns.getD 1 .non, ns.getD 2 .non, ns.getD 3 .non]
theorem pad_cut {ns : List V} (h : ns.length ≤ 4) : cutV (ns ++ (List.replicate 4 [V.non]).flatten) none (some 4) = pad ns := by
  match ns, h with
  | [], _ => rfl
  | [_], _ => rfl
  | [_, _], _ => rfl
  | [_, _, _], _ => rfl
  | [_, _, _, _], _ => rfl
theorem pad_12 {ns : List V} (h0 : ns ≠ []) (h : ns.length ≤ 4) (hn : ∀ v ∈ ns, v ≠ .non) (h2 : ns.getD 2 .non = .non) : (ns = [ns.getD 0 .non] ∧ ns.getD 1 .non = .non) ∨ (ns = [ns.getD 0 .non, ns.getD 1 .non] ∧ ns.getD 1 .non ≠ .non) := by
  match ns, h0, h with
  | [a], _, _ => exact .inl ⟨rfl, rfl⟩
  | [a, b], _, _ => exact .inr ⟨rfl, hn b (by simp)⟩
  | [a, b, c], _, _ => exact absurd h2 (hn c (by simp))
  | [a, b, c, d], _, _ => exact absurd h2 (hn c (by simp))
theorem pad_34 {ns : List V} (h : ns.length ≤ 4) (hn : ∀ v ∈ ns, v ≠ .non) (h2 : ns.getD 2 .non ≠ .non) : (ns = [ns.getD 0 .non, ns.getD 1 .non, ns.getD 2 .non] ∧ ns.getD 3 .non = .non) ∨ (ns = [ns.getD 0 .non, ns.getD 1 .non, ns.getD 2 .non, ns.getD 3 .non] ∧ ns.getD 3 .non ≠ .non) := by
  match ns, h with
  | [], _ => exact absurd rfl h2
  | [a], _ => exact absurd rfl h2
  | [a, b], _ => exact absurd rfl h2
  | [a, b, c], _ => exact .inl ⟨rfl, rfl⟩
  | [a, b, c, d], _ => exact .inr ⟨rfl, hn d (by simp)⟩
theorem mnR {kd : Kd} {z : Str} {ns : List V} {up : V} (e : kd.word = z) (c : decide (z = "rise") = true) (ok : DOk kd ns up) : "Rise" = kd.cls ∧ kd.shp = .many "lines" ∧ ocLines up ns = none := by
  have g := (good_of ok).2
  subst e
  have hk : kd = .rise := by
    clear ok g
    revert c
    cases kd <;> decide
  subst hk
  exact ⟨rfl, rfl, g⟩
theorem mnN {kd : Kd} {z : Str} {ns : List V} {up : V} (e : kd.word = z) (c : decide (z = "night") = true) (ok : DOk kd ns up) : "Night" = kd.cls ∧ kd.shp = .many "lines" ∧ ocLines up ns = none := by
  have g := (good_of ok).2
  subst e
  have hk : kd = .night := by
    clear ok g
    revert c
    cases kd <;> decide
  subst hk
  exact ⟨rfl, rfl, g⟩
theorem mnW {kd : Kd} {z : Str} {ns : List V} {up : V} (e : kd.word = z) (hk : kd = .rise ∨ kd = .night ∨ kd = .renew) (c1 : decide (z = "rise") = false) (c2 : decide (z = "night") = false) (ok : DOk kd ns up) : "Renew" = kd.cls ∧ kd.shp = .many "days" ∧ ocDays up ns = none := by
  have g := (good_of ok).2
  subst e
  rcases hk with rfl | rfl | rfl
  · exact absurd c1 (by decide)
  · exact absurd c2 (by decide)
  · exact ⟨rfl, rfl, g⟩
def spMn (K : PySem.W.Frag) : Sp := fun vs H Q _ => ∃ v k ns up, vs = [v] ∧ (k = .rise ∨ k = .night ∨ k = .renew) ∧ DOk k ns up ∧ ns.length ≤ 4 ∧ DAt H v k ns up ∧ ∀ u H', Same H H' → IsG K k ns up u H' → Q u H'
section
variable {P : Program} {w : World} {K : PySem.W.Frag} {mg : Str → Option Value} {base : Heap}
abbrev scMn_N : List Str := ["_law_deed", "_law_word", "_law_some", "_law_upto", "_law_a", "_law_b", "_law_c", "_law_d"]
theorem scMn : FnScope scMn_N ["_law_deed"] (defScope (top 77)) := ⟨rfl, rfl, rfl, by decide +kernel, rfl, by decide +kernel, by decide +kernel⟩
theorem c_many (T : KF P w K mg base) : Callee P w K mg base CX0 7 "_law_many" ["_law_deed"] (spMn K) := by
  obtain ⟨fd, F, gg⟩ := T.tops ("_law_many", 77) (by decide)
  obtain ⟨GR, mR, gR⟩ := m_Rise (w := w) T
  obtain ⟨GN, mN, gN⟩ := m_Night (w := w) T
  obtain ⟨GW, mW, gW⟩ := m_Renew (w := w) T
  refine ⟨fd, F.ok scMn (fun vs H Q E h => ?_) (fun cdv A outer s H vs Q E hr h => ?_), FunD.bindsN F fun _ _ _ _ _ _ us hl => match us, hl with | [_], _ => rfl, F.kp, gg⟩
  · obtain ⟨v, _, _, _, rfl, _⟩ := h
    rfl
  · obtain ⟨v, kd, ns, up, rfl, hk, ok, l4, ⟨A0, xs, rfl, hA, hsh⟩, q⟩ := h
    have nd := scMn.nd
    refine ⟨_, PSs.nox (pss_cons (ps_asg (pv 0) (pg_tup (by rfl) (pgs_cons (pg_name (i := 1) nd rfl (.inl rfl)) (pgs_cons (pg_name (i := 2) nd rfl (.inl rfl)) (pgs_cons (pg_name (i := 3) nd rfl (.inl rfl)) pgs_nil)))))
      (pss_cons (ps_asg (pe_slice sl_list (pe_op op_cat (pe_callTy call_list_of (by rfl) (T.fr "list" (by decide)) boot_list (pa_cons (pv 2) pa_nil)) (pe_op op_rep (pe_lst (pa_cons pe_non pa_nil)) pe_int)) po_none (po_some pe_int))
        (pg_unl (by rfl) (pgs_cons (pg_name (i := 4) nd rfl (.inl rfl)) (pgs_cons (pg_name (i := 5) nd rfl (.inl rfl)) (pgs_cons (pg_name (i := 6) nd rfl (.inl rfl)) (pgs_cons (pg_name (i := 7) nd rfl (.inl rfl)) pgs_nil))))))
      (pss_cons (ps_if (PW.pt (pw_and (pt_cmpR op_eq (pv 1) pe_str (nomark _)) (pw_and1 (pt_cmp (pc_isN (pv 6)))))) (pss_one (ps_ret (pe_ifExp (pt_cmp (pc_isN (pv 5))) (Sk.pe_skK (E := E0) mR GR (hr.mono (by decide)) (by rfl) gR passL (pa_cons (pv 4) pa_nil) (pk_cons (pv 3) pk_nil)) (Sk.pe_skK (E := E0) mR GR (hr.mono (by decide)) (by rfl) gR passL (pa_cons (pv 4) (pa_cons (pv 5) pa_nil)) (pk_cons (pv 3) pk_nil))))) pss_nil)
      (pss_cons (ps_if (pt_cmpR op_eq (pv 1) pe_str (nomark _)) (pss_one (ps_ret (pe_ifExp (pt_cmp (pc_isN (pv 7))) (Sk.pe_skK (E := E0) mR GR (hr.mono (by decide)) (by rfl) gR passL (pa_cons (pv 4) (pa_cons (pv 5) (pa_cons (pv 6) pa_nil))) (pk_cons (pv 3) pk_nil)) (Sk.pe_skK (E := E0) mR GR (hr.mono (by decide)) (by rfl) gR passL (pa_cons (pv 4) (pa_cons (pv 5) (pa_cons (pv 6) (pa_cons (pv 7) pa_nil)))) (pk_cons (pv 3) pk_nil))))) pss_nil)
      (pss_cons (ps_if (PW.pt (pw_and (pt_cmpR op_eq (pv 1) pe_str (nomark _)) (pw_and1 (pt_cmp (pc_isN (pv 6)))))) (pss_one (ps_ret (pe_ifExp (pt_cmp (pc_isN (pv 5))) (Sk.pe_skK (E := E0) mN GN (hr.mono (by decide)) (by rfl) gN passL (pa_cons (pv 4) pa_nil) (pk_cons (pv 3) pk_nil)) (Sk.pe_skK (E := E0) mN GN (hr.mono (by decide)) (by rfl) gN passL (pa_cons (pv 4) (pa_cons (pv 5) pa_nil)) (pk_cons (pv 3) pk_nil))))) pss_nil)
      (pss_cons (ps_if (pt_cmpR op_eq (pv 1) pe_str (nomark _)) (pss_one (ps_ret (pe_ifExp (pt_cmp (pc_isN (pv 7))) (Sk.pe_skK (E := E0) mN GN (hr.mono (by decide)) (by rfl) gN passL (pa_cons (pv 4) (pa_cons (pv 5) (pa_cons (pv 6) pa_nil))) (pk_cons (pv 3) pk_nil)) (Sk.pe_skK (E := E0) mN GN (hr.mono (by decide)) (by rfl) gN passL (pa_cons (pv 4) (pa_cons (pv 5) (pa_cons (pv 6) (pa_cons (pv 7) pa_nil)))) (pk_cons (pv 3) pk_nil))))) pss_nil)
      (pss_cons (ps_if (pt_cmp (pc_isN (pv 6))) (pss_one (ps_ret (pe_ifExp (pt_cmp (pc_isN (pv 5))) (Sk.pe_skK (E := E0) mW GW (hr.mono (by decide)) (by rfl) gW passL (pa_cons (pv 4) pa_nil) (pk_cons (pv 3) pk_nil)) (Sk.pe_skK (E := E0) mW GW (hr.mono (by decide)) (by rfl) gW passL (pa_cons (pv 4) (pa_cons (pv 5) pa_nil)) (pk_cons (pv 3) pk_nil))))) pss_nil)
      (pss_one (ps_ret (pe_ifExp (pt_cmp (pc_isN (pv 7))) (Sk.pe_skK (E := E0) mW GW (hr.mono (by decide)) (by rfl) gW passL (pa_cons (pv 4) (pa_cons (pv 5) (pa_cons (pv 6) pa_nil))) (pk_cons (pv 3) pk_nil)) (Sk.pe_skK (E := E0) mW GW (hr.mono (by decide)) (by rfl) gW passL (pa_cons (pv 4) (pa_cons (pv 5) (pa_cons (pv 6) (pa_cons (pv 7) pa_nil)))) (pk_cons (pv 3) pk_nil)))))))))))), ?_⟩
    have hs : L2.start scMn_N [.ref A0] = [some (.ref A0), none, none, none, none, none, none, none] := rfl
    rw [hs]
    obtain ⟨tw, ln, hu⟩ := dok_tx ok
    have nn : ∀ v ∈ ns, v ≠ .non := fun v hv e => by
      rcases tw v hv with ⟨_, z, _⟩ | ⟨_, z, _⟩ <;> rw [e] at z <;> cases z
    have n0 : ns ≠ [] := by
      rcases hk with rfl | rfl | rfl <;> (obtain ⟨is, rfl, ne, _⟩ := ok; intro z; exact ne (List.map_eq_nil_iff.mp z))
    obtain ⟨T1, rfl, hT⟩ : ∃ T1 : Addr, xs = [.ref T1, up] ∧ H T1 = some (.tup ns) := by
      rcases hk with rfl | rfl | rfl <;> exact hsh
    generalize hz : kd.word = z at hA
    refine ⟨_, rfl, A0, _, rfl, SqT.of hA, rfl, ⟨_, _, rfl, ⟨_, _, rfl, ⟨_, _, rfl, ⟨rfl, ?_⟩⟩⟩⟩⟩
    show tSeq _ _ _ [some (.ref A0), some (.str z), some (.ref T1), some up, none, none, none, none] H
    have val : ER (tSl (rSlL K) (tOp rCat (tCB (rListT K) (tCons (tVar 2) tNil)) (tOp rRep (tLst (tCons (tC V.non) tNil)) (tC (V.int 4)))) tNoPart (tPart (tC (V.int 4)))) [some (.ref A0), some (.str z), some (.ref T1), some up, none, none, none, none] H (AtL (pad ns)) := by
      have e1 : ER (tLst (tCons (tC V.non) tNil)) [some (.ref A0), some (.str z), some (.ref T1), some up, none, none, none, none] H (AtL [V.non]) := fun H1 s1 F k => ⟨by show 1 ≤ sizeLine; rw [sizeLine_eq]; decide, fun p np => k _ _ (same_new np) ⟨p, rfl, upd_same⟩⟩
      have e2 := er_sl (K := K) (er_cat (er_listT (K := K) (er_var (i := 2) rfl stb_t ⟨T1, rfl, hT⟩)) (er_rep (n := 4) e1 (by decide) (by decide)) (by rw [List.length_flatten]; simp; omega)) pr_no (pr_some (a := 4) er_c)
      rw [pad_cut l4] at e2
      exact e2
    refine val.go fun v1 H1 s1 ⟨L1, e1, h1⟩ => ?_
    obtain rfl := e1
    refine ⟨L1, _, rfl, SqL.of h1, rfl, ⟨_, _, rfl, ⟨_, _, rfl, ⟨_, _, rfl, ⟨_, _, rfl, ⟨rfl, ?_⟩⟩⟩⟩⟩⟩
    show tSeq _ _ _ [some (.ref A0), some (.str z), some (.ref T1), some up, some (ns.getD 0 .non), some (ns.getD 1 .non), some (ns.getD 2 .non), some (ns.getD 3 .non)] H1
    have p12 := pad_12 n0 l4 nn
    have p34 := pad_34 l4 nn
    have fin : ∀ {H2} (u : V) (H3 : Hp), Same H1 H2 → Same H2 H3 → IsG K kd ns up u H3 → Q u H3 := fun u H3 s2 s3 g => q u H3 (s1.trans (s2.trans s3)) g
    have cR : ∀ {b : Bool}, decide (ns.getD 2 V.non = V.non) = b → b = false → ns.getD 2 .non ≠ .non := fun h1 h2 z => by rw [decide_eq_true z] at h1; rw [h2] at h1; cases h1
    refine TestR.then (TestR.and (eq_strs (er_v (i := 1) rfl) er_c) (t_isN (i := 6) rfl)) (fun c H2 s2 => ?_) (fun c1 H2 s2 => ?_)
    · obtain ⟨ca, cb⟩ := Bool.and_eq_true_iff.mp c
      obtain ⟨eC, eS, eO⟩ := mnR hz ca ok
      exact (er_12 (K := K) (H := H2) (congrArg (ga K) eC) eS eO ok rfl rfl rfl (p12 (of_decide_eq_true cb))).go fun u H9 s9 g => fin u H9 s2 s9 g
    refine TestR.then (eq_strs (er_v (i := 1) rfl) er_c) (fun ca H3 s3 => ?_) (fun c2 H3 s3 => ?_)
    · obtain ⟨eC, eS, eO⟩ := mnR hz ca ok
      rw [ca, Bool.true_and] at c1
      exact (er_34 (K := K) (H := H3) (congrArg (ga K) eC) eS eO ok rfl rfl rfl rfl rfl (p34 (of_decide_eq_false c1))).go fun u H9 s9 g => fin u H9 (s2.trans s3) s9 g
    have s23 := s2.trans s3
    refine TestR.then (TestR.and (eq_strs (er_v (i := 1) rfl) er_c) (t_isN (i := 6) rfl)) (fun c H4 s4 => ?_) (fun c3 H4 s4 => ?_)
    · obtain ⟨ca, cb⟩ := Bool.and_eq_true_iff.mp c
      obtain ⟨eC, eS, eO⟩ := mnN hz ca ok
      exact (er_12 (K := K) (H := H4) (congrArg (ga K) eC) eS eO ok rfl rfl rfl (p12 (of_decide_eq_true cb))).go fun u H9 s9 g => fin u H9 (s23.trans s4) s9 g
    have s24 := s23.trans s4
    refine TestR.then (eq_strs (er_v (i := 1) rfl) er_c) (fun ca H5 s5 => ?_) (fun c4 H5 s5 => ?_)
    · obtain ⟨eC, eS, eO⟩ := mnN hz ca ok
      rw [ca, Bool.true_and] at c3
      exact (er_34 (K := K) (H := H5) (congrArg (ga K) eC) eS eO ok rfl rfl rfl rfl rfl (p34 (of_decide_eq_false c3))).go fun u H9 s9 g => fin u H9 (s24.trans s5) s9 g
    have s25 := s24.trans s5
    obtain ⟨eC, eS, eO⟩ := mnW hz hk c2 c4 ok
    refine TestR.then (t_isN (i := 6) rfl) (fun c H6 s6 => ?_) (fun c H6 s6 => ?_)
    · exact (er_12 (K := K) (H := H6) (congrArg (ga K) eC) eS eO ok rfl rfl rfl (p12 (of_decide_eq_true c))).go fun u H9 s9 g => fin u H9 (s25.trans s6) s9 g
    · exact (er_34 (K := K) (H := H6) (congrArg (ga K) eC) eS eO ok rfl rfl rfl rfl rfl (p34 (of_decide_eq_false c))).go fun u H9 s9 g => fin u H9 (s25.trans s6) s9 g
end
end K8
set_option Elab.async false
set_option linter.all false
set_option maxRecDepth 100000
set_option maxHeartbeats 4000000
/-! Deeds of each class, as they are made. -/
namespace K8
open PySem PySem.Spec PyProof.Rows L2 RV EV He EF EI LamX
section
variable {K : PySem.W.Frag} {σ : L2.St} {H : Hp} {t tk : TA} {ns zs : List V} {up v u : V} {k : Kd} {E : XK}
theorem e_Fix (hk : k = .fix) (ok : DOk k ns up) (ha : ERA t σ H ns) : ER (tMake (ga K "Fix") (spDFix K) [] E t) σ H (IsG K k ns up) := by
  subst hk
  have ok' := ok
  obtain ⟨⟨x, rfl, _⟩, rfl⟩ := ok'
  exact er_new (k := .fix) (as := [_]) rfl ha rfl rfl (good_of ok).2 ok (.inl rfl) fun _ => ⟨rfl, rfl, rfl⟩
theorem k_Fix (hk : k = .fix) (ok : DOk k ns up) (ha : ERA tk σ H ns) : ER (tMakeN (ga K "Fix") 0 1 (spDFix K) gV2 E tNil tk) σ H (IsG K k ns up) := by
  subst hk
  have ok' := ok
  obtain ⟨⟨x, rfl, _⟩, rfl⟩ := ok'
  exact er_newK (k := .fix) (as := [_]) rfl ha rfl (fun _ => rfl) rfl (good_of ok).2 ok (.inl rfl) fun _ => ⟨rfl, rfl, rfl⟩
theorem e_Unfix (hk : k = .unfix) (ok : DOk k ns up) (ha : ERA t σ H ns) : ER (tMake (ga K "Unfix") (spDUnfix K) [] E t) σ H (IsG K k ns up) := by
  subst hk
  have ok' := ok
  obtain ⟨⟨x, rfl, _⟩, rfl⟩ := ok'
  exact er_new (k := .unfix) (as := [_]) rfl ha rfl rfl (good_of ok).2 ok (.inl rfl) fun _ => ⟨rfl, rfl, rfl⟩
theorem k_Unfix (hk : k = .unfix) (ok : DOk k ns up) (ha : ERA tk σ H ns) : ER (tMakeN (ga K "Unfix") 0 1 (spDUnfix K) gV2 E tNil tk) σ H (IsG K k ns up) := by
  subst hk
  have ok' := ok
  obtain ⟨⟨x, rfl, _⟩, rfl⟩ := ok'
  exact er_newK (k := .unfix) (as := [_]) rfl ha rfl (fun _ => rfl) rfl (good_of ok).2 ok (.inl rfl) fun _ => ⟨rfl, rfl, rfl⟩
theorem e_End (hk : k = .end_) (ok : DOk k ns up) (ha : ERA t σ H ns) : ER (tMake (ga K "End") (spDEnd K) [] E t) σ H (IsG K k ns up) := by
  subst hk
  have ok' := ok
  obtain ⟨⟨x, rfl, _⟩, rfl⟩ := ok'
  exact er_new (k := .end_) (as := [_]) rfl ha rfl rfl (good_of ok).2 ok (.inl rfl) fun _ => ⟨rfl, rfl, rfl⟩
theorem k_End (hk : k = .end_) (ok : DOk k ns up) (ha : ERA tk σ H ns) : ER (tMakeN (ga K "End") 0 1 (spDEnd K) gV2 E tNil tk) σ H (IsG K k ns up) := by
  subst hk
  have ok' := ok
  obtain ⟨⟨x, rfl, _⟩, rfl⟩ := ok'
  exact er_newK (k := .end_) (as := [_]) rfl ha rfl (fun _ => rfl) rfl (good_of ok).2 ok (.inl rfl) fun _ => ⟨rfl, rfl, rfl⟩
theorem e_Offer (hk : k = .offer) (ok : DOk k ns up) (ha : ERA t σ H ns) : ER (tMake (ga K "Offer") (spDOffer K) [] E t) σ H (IsG K k ns up) := by
  subst hk
  have ok' := ok
  obtain ⟨⟨x, rfl, _⟩, rfl⟩ := ok'
  exact er_new (k := .offer) (as := [_]) rfl ha rfl rfl (good_of ok).2 ok (.inl rfl) fun _ => ⟨rfl, rfl, rfl⟩
theorem k_Offer (hk : k = .offer) (ok : DOk k ns up) (ha : ERA tk σ H ns) : ER (tMakeN (ga K "Offer") 0 1 (spDOffer K) gV2 E tNil tk) σ H (IsG K k ns up) := by
  subst hk
  have ok' := ok
  obtain ⟨⟨x, rfl, _⟩, rfl⟩ := ok'
  exact er_newK (k := .offer) (as := [_]) rfl ha rfl (fun _ => rfl) rfl (good_of ok).2 ok (.inl rfl) fun _ => ⟨rfl, rfl, rfl⟩
theorem e_Live (hk : k = .live) (ok : DOk k ns up) (ha : ERA t σ H ns) : ER (tMake (ga K "Live") (spDLive K) [] E t) σ H (IsG K k ns up) := by
  subst hk
  have ok' := ok
  obtain ⟨⟨x, rfl, _⟩, rfl⟩ := ok'
  exact er_new (k := .live) (as := [_]) rfl ha rfl rfl (good_of ok).2 ok (.inl rfl) fun _ => ⟨rfl, rfl, rfl⟩
theorem k_Live (hk : k = .live) (ok : DOk k ns up) (ha : ERA tk σ H ns) : ER (tMakeN (ga K "Live") 0 1 (spDLive K) gV2 E tNil tk) σ H (IsG K k ns up) := by
  subst hk
  have ok' := ok
  obtain ⟨⟨x, rfl, _⟩, rfl⟩ := ok'
  exact er_newK (k := .live) (as := [_]) rfl ha rfl (fun _ => rfl) rfl (good_of ok).2 ok (.inl rfl) fun _ => ⟨rfl, rfl, rfl⟩
theorem e_Down (hk : k = .down) (ok : DOk k ns up) (ha : ERA t σ H ns) : ER (tMake (ga K "Down") (spDDown K) [] E t) σ H (IsG K k ns up) := by
  subst hk
  have ok' := ok
  obtain ⟨⟨x, rfl, _⟩, rfl⟩ := ok'
  exact er_new (k := .down) (as := [_]) rfl ha rfl rfl (good_of ok).2 ok (.inl rfl) fun _ => ⟨rfl, rfl, rfl⟩
theorem k_Down (hk : k = .down) (ok : DOk k ns up) (ha : ERA tk σ H ns) : ER (tMakeN (ga K "Down") 0 1 (spDDown K) gV2 E tNil tk) σ H (IsG K k ns up) := by
  subst hk
  have ok' := ok
  obtain ⟨⟨x, rfl, _⟩, rfl⟩ := ok'
  exact er_newK (k := .down) (as := [_]) rfl ha rfl (fun _ => rfl) rfl (good_of ok).2 ok (.inl rfl) fun _ => ⟨rfl, rfl, rfl⟩
theorem e_Day (hk : k = .day) (ok : DOk k ns up) (ha : ERA t σ H ns) : ER (tMake (ga K "Day") (spDDay K) [] E t) σ H (IsG K k ns up) := by
  subst hk
  have ok' := ok
  obtain ⟨⟨x, rfl, _⟩, rfl⟩ := ok'
  exact er_new (k := .day) (as := [_]) rfl ha rfl rfl (good_of ok).2 ok (.inl rfl) fun _ => ⟨rfl, rfl, rfl⟩
theorem k_Day (hk : k = .day) (ok : DOk k ns up) (ha : ERA tk σ H ns) : ER (tMakeN (ga K "Day") 0 1 (spDDay K) gV2 E tNil tk) σ H (IsG K k ns up) := by
  subst hk
  have ok' := ok
  obtain ⟨⟨x, rfl, _⟩, rfl⟩ := ok'
  exact er_newK (k := .day) (as := [_]) rfl ha rfl (fun _ => rfl) rfl (good_of ok).2 ok (.inl rfl) fun _ => ⟨rfl, rfl, rfl⟩
theorem e_Redo (hk : k = .redo) (ok : DOk k ns up) (ha : ERA t σ H ns) : ER (tMake (ga K "Redo") (spDRedo K) [] E t) σ H (IsG K k ns up) := by
  subst hk
  have ok' := ok
  obtain ⟨⟨x, rfl, _⟩, rfl⟩ := ok'
  exact er_new (k := .redo) (as := [_]) rfl ha rfl rfl (good_of ok).2 ok (.inl rfl) fun _ => ⟨rfl, rfl, rfl⟩
theorem k_Redo (hk : k = .redo) (ok : DOk k ns up) (ha : ERA tk σ H ns) : ER (tMakeN (ga K "Redo") 0 1 (spDRedo K) gV2 E tNil tk) σ H (IsG K k ns up) := by
  subst hk
  have ok' := ok
  obtain ⟨⟨x, rfl, _⟩, rfl⟩ := ok'
  exact er_newK (k := .redo) (as := [_]) rfl ha rfl (fun _ => rfl) rfl (good_of ok).2 ok (.inl rfl) fun _ => ⟨rfl, rfl, rfl⟩
theorem e_Shut (hk : k = .shut) (ok : DOk k ns up) (ha : ERA t σ H ns) : ER (tMake (ga K "Shut") (spDShut K) [] E t) σ H (IsG K k ns up) := by
  subst hk
  have ok' := ok
  obtain ⟨⟨x, rfl, _⟩, rfl⟩ := ok'
  exact er_new (k := .shut) (as := [_]) rfl ha rfl rfl (good_of ok).2 ok (.inl rfl) fun _ => ⟨rfl, rfl, rfl⟩
theorem k_Shut (hk : k = .shut) (ok : DOk k ns up) (ha : ERA tk σ H ns) : ER (tMakeN (ga K "Shut") 0 1 (spDShut K) gV2 E tNil tk) σ H (IsG K k ns up) := by
  subst hk
  have ok' := ok
  obtain ⟨⟨x, rfl, _⟩, rfl⟩ := ok'
  exact er_newK (k := .shut) (as := [_]) rfl ha rfl (fun _ => rfl) rfl (good_of ok).2 ok (.inl rfl) fun _ => ⟨rfl, rfl, rfl⟩
theorem e_Carry (hk : k = .carry) (ok : DOk k ns up) (ha : ERA t σ H ns) : ER (tMake (ga K "Carry") (spDCarry K) [] E t) σ H (IsG K k ns up) := by
  subst hk
  have ok' := ok
  obtain ⟨⟨x, y, rfl, _⟩, rfl⟩ := ok'
  exact er_new (k := .carry) (as := [_, _]) rfl ha rfl rfl (good_of ok).2 ok (.inl rfl) fun _ => ⟨rfl, rfl, rfl⟩
theorem k_Carry (hk : k = .carry) (ok : DOk k [v, u] up) (ha : ERA tk σ H [u, v]) : ER (tMakeN (ga K "Carry") 0 2 (spDCarry K) gVx E tNil tk) σ H (IsG K k [v, u] up) := by
  subst hk
  have ok' := ok
  obtain ⟨⟨x, y, e, _⟩, rfl⟩ := ok'
  exact er_newK (k := .carry) (as := [_, _]) rfl ha rfl (fun _ => rfl) rfl (good_of ok).2 ok (.inl rfl) fun _ => ⟨rfl, rfl, rfl⟩
theorem e_Drop (hk : k = .drop) (ok : DOk k ns up) (ha : ERA t σ H ns) : ER (tMake (ga K "Drop") (spDDrop K) [] E t) σ H (IsG K k ns up) := by
  subst hk
  have ok' := ok
  obtain ⟨⟨x, y, rfl, _⟩, rfl⟩ := ok'
  exact er_new (k := .drop) (as := [_, _]) rfl ha rfl rfl (good_of ok).2 ok (.inl rfl) fun _ => ⟨rfl, rfl, rfl⟩
theorem k_Drop (hk : k = .drop) (ok : DOk k [v, u] up) (ha : ERA tk σ H [u, v]) : ER (tMakeN (ga K "Drop") 0 2 (spDDrop K) gVx E tNil tk) σ H (IsG K k [v, u] up) := by
  subst hk
  have ok' := ok
  obtain ⟨⟨x, y, e, _⟩, rfl⟩ := ok'
  exact er_newK (k := .drop) (as := [_, _]) rfl ha rfl (fun _ => rfl) rfl (good_of ok).2 ok (.inl rfl) fun _ => ⟨rfl, rfl, rfl⟩
theorem e_Try (hk : k = .try_) (ok : DOk k ns up) (ha : ERA t σ H ns) : ER (tMake (ga K "Try") (spDTry K) [] E t) σ H (IsG K k ns up) := by
  subst hk
  have ok' := ok
  obtain ⟨⟨x, y, rfl, _⟩, rfl⟩ := ok'
  exact er_new (k := .try_) (as := [_, _]) rfl ha rfl rfl (good_of ok).2 ok (.inl rfl) fun _ => ⟨rfl, rfl, rfl⟩
theorem k_Try (hk : k = .try_) (ok : DOk k [v, u] up) (ha : ERA tk σ H [u, v]) : ER (tMakeN (ga K "Try") 0 2 (spDTry K) gVx E tNil tk) σ H (IsG K k [v, u] up) := by
  subst hk
  have ok' := ok
  obtain ⟨⟨x, y, e, _⟩, rfl⟩ := ok'
  exact er_newK (k := .try_) (as := [_, _]) rfl ha rfl (fun _ => rfl) rfl (good_of ok).2 ok (.inl rfl) fun _ => ⟨rfl, rfl, rfl⟩
theorem e_Probe (hk : k = .probe) (ok : DOk k ns up) (ha : ERA t σ H ns) : ER (tMake (ga K "Probe") (spDProbe K) [] E t) σ H (IsG K k ns up) := by
  subst hk
  have ok' := ok
  obtain ⟨⟨x, y, rfl, _⟩, rfl⟩ := ok'
  exact er_new (k := .probe) (as := [_, _]) rfl ha rfl rfl (good_of ok).2 ok (.inl rfl) fun _ => ⟨rfl, rfl, rfl⟩
theorem k_Probe (hk : k = .probe) (ok : DOk k [v, u] up) (ha : ERA tk σ H [u, v]) : ER (tMakeN (ga K "Probe") 0 2 (spDProbe K) gVx E tNil tk) σ H (IsG K k [v, u] up) := by
  subst hk
  have ok' := ok
  obtain ⟨⟨x, y, e, _⟩, rfl⟩ := ok'
  exact er_newK (k := .probe) (as := [_, _]) rfl ha rfl (fun _ => rfl) rfl (good_of ok).2 ok (.inl rfl) fun _ => ⟨rfl, rfl, rfl⟩
theorem e_Meet (hk : k = .meet_) (ok : DOk k ns up) (ha : ERA t σ H ns) : ER (tMake (ga K "Meet") (spDMeet K) [] E t) σ H (IsG K k ns up) := by
  subst hk
  have ok' := ok
  obtain ⟨⟨x, y, rfl, _⟩, rfl⟩ := ok'
  exact er_new (k := .meet_) (as := [_, _]) rfl ha rfl rfl (good_of ok).2 ok (.inl rfl) fun _ => ⟨rfl, rfl, rfl⟩
theorem k_Meet (hk : k = .meet_) (ok : DOk k [v, u] up) (ha : ERA tk σ H [u, v]) : ER (tMakeN (ga K "Meet") 0 2 (spDMeet K) gVx E tNil tk) σ H (IsG K k [v, u] up) := by
  subst hk
  have ok' := ok
  obtain ⟨⟨x, y, e, _⟩, rfl⟩ := ok'
  exact er_newK (k := .meet_) (as := [_, _]) rfl ha rfl (fun _ => rfl) rfl (good_of ok).2 ok (.inl rfl) fun _ => ⟨rfl, rfl, rfl⟩
/-- Merge(a), Merge(a, b), Merge(line = a), Merge(upto = b, line = a) -/
theorem e_Merge (hk : k = .merge) (ok : DOk k [v] .non) (ha : ERA t σ H [v]) : ER (tMake (ga K "Merge") (spDMerge K) [.non] E t) σ H (IsG K k [v] .non) := by
  subst hk
  exact er_new (k := .merge) (as := [_, _]) rfl ha rfl rfl (good_of ok).2 ok (.inr rfl) fun _ => ⟨_, rfl, rfl⟩
theorem e_Merge2 (hk : k = .merge) (ok : DOk k [v] up) (ha : ERA t σ H [v, up]) : ER (tMake (ga K "Merge") (spDMerge K) [] E t) σ H (IsG K k [v] up) := by
  subst hk
  exact er_new (k := .merge) (as := [_, _]) rfl ha rfl rfl (good_of ok).2 ok (.inr rfl) fun _ => ⟨_, rfl, rfl⟩
abbrev gVm : List V → List V → List V := fun vs zs => vs ++ zs ++ [.non]
theorem k_Merge (hk : k = .merge) (ok : DOk k [v] .non) (ha : ERA tk σ H [v]) : ER (tMakeN (ga K "Merge") 0 1 (spDMerge K) gVm E tNil tk) σ H (IsG K k [v] .non) := by
  subst hk
  exact er_newK (k := .merge) (as := [_, _]) rfl ha rfl (fun _ => rfl) rfl (good_of ok).2 ok (.inr rfl) fun _ => ⟨_, rfl, rfl⟩
theorem k_Merge2 (hk : k = .merge) (ok : DOk k [v] up) (ha : ERA tk σ H [up, v]) : ER (tMakeN (ga K "Merge") 0 2 (spDMerge K) gVx E tNil tk) σ H (IsG K k [v] up) := by
  subst hk
  exact er_newK (k := .merge) (as := [_, _]) rfl ha rfl (fun _ => rfl) rfl (good_of ok).2 ok (.inr rfl) fun _ => ⟨_, rfl, rfl⟩
theorem e_Cut (hk : k = .cut) (ok : DOk k ns up) : ER (Oo.tNew00 (ga K "Cut")) σ H (IsG K k ns up) := by
  subst hk
  obtain ⟨rfl, rfl⟩ := ok
  exact er_cut trivial
end
section
variable {P : Program} {w : World} {K : PySem.W.Frag} {mg : Str → Option Value} {base : Heap}
theorem x_Merge (T : KF P w K mg base) : ∃ fd its, FnOk P w K mg base (L2.CX P w) 5 (ma K (ga K "Merge") "__init__") fd ["self", "line", "upto"] (spDMerge K) ∧ (Vals [V.non] its ∧ L2.Binds K fd ["self", "line", "upto"] its) ∧ L2.Binds K fd ["self", "line", "upto"] [] ∧
    (∃ g1, KBn K fd ["self", "line", "upto"] 1 ["line"] g1 gVm) ∧ (∃ g2, KBn K fd ["self", "line", "upto"] 1 ["upto", "line"] g2 gVx) ∧ Mk K (ga K "Merge") (ma K (ga K "Merge") "__init__") ∧ mg "Merge" = some (.ref (ga K "Merge")) := by
  obtain ⟨fd, F⟩ := T.ik ("Merge", 51) (by decide)
  obtain ⟨g, _, m⟩ := T.gk ("Merge", 51) (by decide)
  obtain ⟨ds, r, b⟩ := FunD.binds1 F (ps := ["self", "line", "upto"]) 3 1 (fun z => nomatch z) rfl fun T kV doc pm an cdv ct us its h1 h2 => match us, its, h1, h2 with
    | [_, _, _], [_], _, _ => ⟨_, rfl, rfl⟩
  cases r
  obtain ⟨ds, r, b2⟩ := FunD.binds1 F (ps := ["self", "line", "upto"]) 2 0 (fun z => nomatch z) rfl fun T kV doc pm an cdv ct us its h1 h2 => match us, its, h1, h2 with
    | [_, _], [_], _, _ => ⟨_, rfl, rfl⟩
  obtain ⟨its, kb⟩ := FunD.kbindsD F (ps := ["self", "line", "upto"]) 1 ["line"] (fun us its ws => us ++ ws ++ its) (fun z => nomatch z) (fun r1 r2 r3 => (r1.append r3).append r2) fun T kV doc pm an cdv ct us its ws h1 h2 h3 => match us, its, ws, h1, h2, h3 with
    | [_], [_], [_], _, _, _ => ⟨_, rfl, rfl⟩
  obtain ⟨its2, kb2⟩ := FunD.kbindsD F (ps := ["self", "line", "upto"]) 1 ["upto", "line"] (fun us its ws => us ++ Kw.sel [1, 0] ws) (fun z => nomatch z) (fun r1 r2 r3 => r1.append (Kw.vals_sel r3 _)) fun T kV doc pm an cdv ct us its ws h1 h2 h3 => match us, its, ws, h1, h2, h3 with
    | [_], [_], [_, _], _, _, _ => ⟨_, rfl, rfl⟩
  exact ⟨fd, ds, ok_Merge T F, ⟨r, b2⟩, b, ⟨_, kb⟩, ⟨_, kb2⟩, m, g⟩
end
end K8
set_option Elab.async false
set_option linter.all false
set_option maxRecDepth 100000
set_option maxHeartbeats 4000000
/-! _law_on_line, _law_made. -/
namespace K8
open PySem PySem.Spec PyProof.Rows L2 RV EV He EF EI LamX
theorem wk1 {kd b : Kd} {z : Str} (e : kd.word = z) (c : decide (z = b.word) = true) : kd = b := Kd.inj (e.trans (of_decide_eq_true c))
theorem wk2 {kd a b : Kd} {z : Str} (e : kd.word = z) (c : decide (z ∈ ([a.word, b.word] : List Str)) = true) (d : decide (z = a.word) = false) : kd = b := by
  rcases List.mem_cons.mp (of_decide_eq_true c) with h | h
  · exact absurd h (of_decide_eq_false d)
  · exact Kd.inj (e.trans (List.mem_singleton.mp h))
theorem on_day {kd : Kd} {z : Str} (e : kd.word = z) (hk : kd = .end_ ∨ kd = .offer ∨ kd = .live ∨ kd = .down ∨ kd = .day) (c1 : decide (z = "end") = false) (c2 : decide (z = "offer") = false) (c3 : decide (z = "live") = false) (c4 : decide (z = "down") = false) : kd = .day := by
  subst e
  rcases hk with rfl | rfl | rfl | rfl | rfl <;> first | rfl | exact absurd c1 (by decide) | exact absurd c2 (by decide) | exact absurd c3 (by decide) | exact absurd c4 (by decide)
theorem dk_on {kd : Kd} {z : Str} (e : kd.word = z) (c1 : decide (z ∈ (["rise", "night", "renew"] : List Str)) = false) (c2 : decide (z ∈ (["fix", "unfix"] : List Str)) = false) (c3 : decide (z ∈ (["carry", "drop"] : List Str)) = false) (c4 : decide (z = "merge") = false)
    (c5 : decide (z = "cut") = false) (c6 : decide (z ∈ (["redo", "shut"] : List Str)) = false) (c7 : decide (z = "try") = false) (c8 : decide (z ∈ (["probe", "meet"] : List Str)) = false) : kd = .end_ ∨ kd = .offer ∨ kd = .live ∨ kd = .down ∨ kd = .day := by
  subst e
  revert c1 c2 c3 c4 c5 c6 c7 c8
  cases kd <;> decide
theorem one_of {kd : Kd} {ns : List V} {up : V} (hk : kd = .fix ∨ kd = .unfix ∨ kd = .redo ∨ kd = .shut ∨ kd = .merge ∨ (kd = .end_ ∨ kd = .offer ∨ kd = .live ∨ kd = .down ∨ kd = .day)) (ok : DOk kd ns up) : ∃ v, ns = [v] := by
  rcases hk with rfl | rfl | rfl | rfl | rfl | (rfl | rfl | rfl | rfl | rfl) <;> (obtain ⟨⟨x, rfl, _⟩, _⟩ := ok; exact ⟨_, rfl⟩)
theorem two_of {kd : Kd} {ns : List V} {up : V} (hk : kd = .carry ∨ kd = .drop ∨ kd = .try_ ∨ kd = .probe ∨ kd = .meet_) (ok : DOk kd ns up) : ∃ v u, ns = [v, u] := by
  rcases hk with rfl | rfl | rfl | rfl | rfl <;> (obtain ⟨⟨x, y, rfl, _⟩, _⟩ := ok; exact ⟨_, _, rfl⟩)
theorem par_go {i j : Nat} {t : TA} {SR : TS} {D : Ends} {σ : L2.St} {H : Hp} {v u : V} (h : ERA t σ H [v, u]) (k : ∀ H', Same H H' → SR D ((σ.set i (some v)).set j (some u)) H') : tSeq (tPar i j t) SR D σ H := h H same_rfl _ fun H' s => ⟨_, _, rfl, k H' s⟩
def spMd (K : PySem.W.Frag) (p : Kd → Prop) : Sp := fun vs H Q _ => ∃ v k ns up, vs = [v] ∧ p k ∧ DOk k ns up ∧ ns.length ≤ 4 ∧ DAt H v k ns up ∧ ∀ u H', Same H H' → IsG K k ns up u H' → Q u H'
abbrev pOn : Kd → Prop := fun kd => kd = .end_ ∨ kd = .offer ∨ kd = .live ∨ kd = .down ∨ kd = .day
theorem on_shp {kd : Kd} (h : pOn kd) : ∃ gs, kd.shp = .pl gs := by rcases h with rfl | rfl | rfl | rfl | rfl <;> exact ⟨_, rfl⟩
section
variable {P : Program} {w : World} {K : PySem.W.Frag} {mg : Str → Option Value} {base : Heap}
abbrev scOn_N : List Str := ["_law_deed", "_law_word", "_law_line"]
theorem scOn : FnScope scOn_N ["_law_deed"] (defScope (top 78)) := ⟨rfl, rfl, rfl, by decide +kernel, rfl, by decide +kernel, by decide +kernel⟩
theorem c_onl (T : KF P w K mg base) : Callee P w K mg base CX0 7 "_law_on_line" ["_law_deed"] (spMd K pOn) := by
  obtain ⟨fd, F, gg⟩ := T.tops ("_law_on_line", 78) (by decide)
  obtain ⟨fE, GE, bE, mE, gE⟩ := m_End (w := w) T
  obtain ⟨fO, GO, bO, mO, gO⟩ := x_Offer (w := w) T
  obtain ⟨fL, GL, bL, mL, gL⟩ := m_Live (w := w) T
  obtain ⟨fW, GW, bW, mW, gW⟩ := m_Down (w := w) T
  obtain ⟨fY, GY, bY, mY, gY⟩ := x_Day (w := w) T
  refine ⟨fd, F.ok scOn (fun vs H Q E h => ?_) (fun cdv A outer s H vs Q E hr h => ?_), FunD.bindsN F fun _ _ _ _ _ _ us hl => match us, hl with | [_], _ => rfl, F.kp, gg⟩
  · obtain ⟨v, _, _, _, rfl, _⟩ := h
    rfl
  · obtain ⟨v, kd, ns, up, rfl, hk, ok, l4, ⟨A0, xs, rfl, hA, hsh⟩, q⟩ := h
    have nd := scOn.nd
    refine ⟨_, PSs.nox (pss_cons (ps_par (i := 1) (j := 2) rfl nd rfl rfl (by decide) rfl rfl (pa_cons (pe_ix ix_tup (pv 0) pe_int (fun _ _ => rfl)) (pa_cons (pe_ix ix_tup (pv 0) (pe_un un_neg pe_int) (fun _ _ => rfl)) pa_nil)) rfl)
      (pss_cons (ps_if (pt_cmpR op_eq (pv 1) pe_str (nomark _)) (pss_one (ps_ret (pe_make (E := E0) mE GE (hr.mono (by decide)) (by rfl) gE bE .nil passL (pa_cons (pv 2) pa_nil)))) pss_nil)
      (pss_cons (ps_if (pt_cmpR op_eq (pv 1) pe_str (nomark _)) (pss_one (ps_ret (Kw.pe_makeKw (E := E0) (ks := ["line"]) mO GO (hr.mono (by decide)) (by rfl) gO bO passL (pk_cons (pv 2) pk_nil)))) pss_nil)
      (pss_cons (ps_if (pt_cmpR op_eq (pv 1) pe_str (nomark _)) (pss_one (ps_ret (pe_make (E := E0) mL GL (hr.mono (by decide)) (by rfl) gL bL .nil passL (pa_cons (pv 2) pa_nil)))) pss_nil)
      (pss_one (ps_ret (pe_ifExp (pt_cmpR op_eq (pv 1) pe_str (nomark _)) (pe_make (E := E0) mW GW (hr.mono (by decide)) (by rfl) gW bW .nil passL (pa_cons (pv 2) pa_nil)) (Kw.pe_makeKw (E := E0) (ks := ["line"]) mY GY (hr.mono (by decide)) (by rfl) gY bY passL (pk_cons (pv 2) pk_nil))))))))), ?_⟩
    have hs : L2.start scOn_N [.ref A0] = [some (.ref A0), none, none] := rfl
    rw [hs]
    obtain ⟨l, rfl⟩ := one_of (.inr (.inr (.inr (.inr (.inr hk))))) ok
    obtain ⟨gs, hg⟩ := on_shp hk
    rw [hg] at hsh
    have hsh : xs = [l] := hsh
    subst hsh
    generalize hz : kd.word = z at hA
    have dA : ER (tVar 0) [some (.ref A0), none, none] H (AtT [.str z, l]) := er_var (i := 0) rfl stb_t ⟨A0, rfl, hA⟩
    have vals : ERA (tCons (tOp (rIxT K) (tVar 0) (tC (V.int 0))) (tCons (tOp (rIxT K) (tVar 0) (tUn (rU fun i => V.int (-i)) (tC (V.int 1)))) tNil)) [some (.ref A0), none, none] H [.str z, l] :=
      era_cons (er_ixT dA (atI_nat (j := 0) rfl) er_c) (era_cons (er_ixT (j := -1) dA rfl (fun H1 s1 F q => ⟨1, rfl, q _ H1 same_rfl rfl⟩)) era_nil)
    refine par_go vals fun H1 s1 => ?_
    show tSeq _ _ _ [some (.ref A0), some (.str z), some l] H1
    have fin : ∀ {H2} (u : V) (H3 : Hp), Same H1 H2 → Same H2 H3 → IsG K kd [l] up u H3 → Q u H3 := fun u H3 s2 s3 g => q u H3 (s1.trans (s2.trans s3)) g
    have al : ∀ {H2}, ERA (tCons (tVar 2) tNil) [some (.ref A0), some (.str z), some l] H2 [l] := era_cons (er_v (i := 2) rfl) era_nil
    refine TestR.then (eq_strs (er_v (i := 1) rfl) er_c) (fun c H2 s2 => ?_) (fun c1 H2 s2 => ?_)
    · exact (e_End (K := K) (wk1 (b := .end_) hz c) ok al).go fun u H9 s9 g => fin u H9 s2 s9 g
    refine TestR.then (eq_strs (er_v (i := 1) rfl) er_c) (fun c H3 s3 => ?_) (fun c2 H3 s3 => ?_)
    · exact (k_Offer (K := K) (wk1 (b := .offer) hz c) ok al).go fun u H9 s9 g => fin u H9 (s2.trans s3) s9 g
    refine TestR.then (eq_strs (er_v (i := 1) rfl) er_c) (fun c H4 s4 => ?_) (fun c3 H4 s4 => ?_)
    · exact (e_Live (K := K) (wk1 (b := .live) hz c) ok al).go fun u H9 s9 g => fin u H9 ((s2.trans s3).trans s4) s9 g
    refine TestR.ifE (eq_strs (er_v (i := 1) rfl) er_c) (fun c H5 s5 => ?_) (fun c4 H5 s5 => ?_)
    · exact (e_Down (K := K) (wk1 (b := .down) hz c) ok al).go fun u H9 s9 g => fin u H9 (((s2.trans s3).trans s4).trans s5) s9 g
    · exact (k_Day (K := K) (on_day hz hk c1 c2 c3 c4) ok al).go fun u H9 s9 g => fin u H9 (((s2.trans s3).trans s4).trans s5) s9 g
end
end K8
set_option Elab.async false
set_option linter.all false
set_option maxRecDepth 100000
set_option maxHeartbeats 4000000
/-! _law_made. -/
namespace K8
open PySem PySem.Spec PyProof.Rows L2 RV EV He EF EI LamX
def spMa (K : PySem.W.Frag) : Sp := spMd K fun _ => True
abbrev gD1 (K : PySem.W.Frag) (j : Int) : TE := tOp (rIxT K) (tVar 0) (tC (V.int j))
theorem mk_many {kd : Kd} {z : Str} (e : kd.word = z) (c : decide (z ∈ (["rise", "night", "renew"] : List Str)) = true) : kd = .rise ∨ kd = .night ∨ kd = .renew := by
  subst e
  revert c
  cases kd <;> decide
theorem sh_same {H H' : Hp} {kd : Kd} {ns xs : List V} {up : V} (s : Same H H') (h : match kd.shp with
  | .pl _ => xs = ns
  | .mg => xs = ns ++ [up]
  | .many _ => ∃ T : Addr, xs = [.ref T, up] ∧ H T = some (.tup ns)) : match kd.shp with
  | .pl _ => xs = ns
  | .mg => xs = ns ++ [up]
  | .many _ => ∃ T : Addr, xs = [.ref T, up] ∧ H' T = some (.tup ns) := by
  generalize kd.shp = sh at h ⊢
  cases sh with
  | pl gs => exact h
  | mg => exact h
  | many f =>
    obtain ⟨T1, e, h⟩ := h
    exact ⟨T1, e, s _ _ h⟩
section
variable {P : Program} {w : World} {K : PySem.W.Frag} {mg : Str → Option Value} {base : Heap}
abbrev scMad_N : List Str := ["_law_deed", "_law_word"]
theorem scMad : FnScope scMad_N ["_law_deed"] (defScope (top 79)) := ⟨rfl, rfl, rfl, by decide +kernel, rfl, by decide +kernel, by decide +kernel⟩
theorem c_made (T : KF P w K mg base) : Callee P w K mg base CX0 8 "_law_made" ["_law_deed"] (spMa K) := by
  obtain ⟨fd, F, gg⟩ := T.tops ("_law_made", 79) (by decide)
  obtain ⟨fA, GA, bA, kA, gA⟩ := c_many (w := w) T
  obtain ⟨fB, GB, bB, kB, gB⟩ := c_onl (w := w) T
  obtain ⟨f1, G1, b1, m1, g1⟩ := m_Fix (w := w) T
  obtain ⟨f2, G2, b2, m2, g2⟩ := x_Unfix (w := w) T
  obtain ⟨f3, G3, b3, m3, g3⟩ := x_Carry (w := w) T
  obtain ⟨f4, G4, b4, m4, g4⟩ := m_Drop (w := w) T
  obtain ⟨f5, its5, G5, ⟨r5, b5⟩, _, _, ⟨gg5, b5k⟩, m5, g5⟩ := x_Merge (w := w) T
  obtain ⟨f6, G6, b6, m6, g6⟩ := x_Redo (w := w) T
  obtain ⟨f7, G7, b7, m7, g7⟩ := m_Shut (w := w) T
  obtain ⟨f8, G8, b8, m8, g8⟩ := m_Try (w := w) T
  obtain ⟨f9, G9, b9, m9, g9⟩ := x_Probe (w := w) T
  obtain ⟨f0, G0, b0, m0, g0⟩ := m_Meet (w := w) T
  have gCut := T.gc
  have mCut := mk_cut T
  refine ⟨fd, F.ok scMad (fun vs H Q E h => ?_) (fun cdv A outer s H vs Q E hr h => ?_), FunD.bindsN F fun _ _ _ _ _ _ us hl => match us, hl with | [_], _ => rfl, F.kp, gg⟩
  · obtain ⟨v, _, _, _, rfl, _⟩ := h
    rfl
  · obtain ⟨v, kd, ns, up, rfl, _, ok, l4, dat, q⟩ := h
    have dat0 := dat
    obtain ⟨A0, xs, rfl, hA, hsh⟩ := dat
    have nd := scMad.nd
    refine ⟨_, PSs.nox (pss_cons (ps_set (i := 1) nd rfl (.inl rfl) (pe_ix ix_tup (pv 0) pe_int (fun _ _ => rfl)))
      (pss_cons (ps_if (pt_cmpR op_in_seq (pv 1) (pe_tup (pa_cons pe_str (pa_cons pe_str (pa_cons pe_str pa_nil)))) rfl) (pss_one (ps_ret (pe_call (E := E0) GA (hr.mono (by decide)) (by rfl) gA kA bA .nil pass0 (pa_cons (pv 0) pa_nil)))) pss_nil)
      (pss_cons (ps_if (pt_cmpR op_in_seq (pv 1) (pe_tup (pa_cons pe_str (pa_cons pe_str pa_nil))) rfl) (pss_one (ps_ret (pe_ifExp (pt_cmpR op_eq (pv 1) pe_str (nomark _)) (pe_make (E := E0) m1 G1 (hr.mono (by decide)) (by rfl) g1 b1 .nil passL (pa_cons (pe_ix ix_tup (pv 0) pe_int (fun _ _ => rfl)) pa_nil)) (Kw.pe_makeKw (E := E0) (ks := ["fix"]) m2 G2 (hr.mono (by decide)) (by rfl) g2 b2 passL (pk_cons (pe_ix ix_tup (pv 0) pe_int (fun _ _ => rfl)) pk_nil))))) pss_nil)
      (pss_cons (ps_if (pt_cmpR op_in_seq (pv 1) (pe_tup (pa_cons pe_str (pa_cons pe_str pa_nil))) rfl) (pss_one (ps_ret (pe_ifExp (pt_cmpR op_eq (pv 1) pe_str (nomark _)) (Kw.pe_makeKw (E := E0) (ks := ["line", "fix"]) m3 G3 (hr.mono (by decide)) (by rfl) g3 b3 passL (pk_cons (pe_ix ix_tup (pv 0) pe_int (fun _ _ => rfl)) (pk_cons (pe_ix ix_tup (pv 0) pe_int (fun _ _ => rfl)) pk_nil))) (pe_make (E := E0) m4 G4 (hr.mono (by decide)) (by rfl) g4 b4 .nil passL (pa_cons (pe_ix ix_tup (pv 0) pe_int (fun _ _ => rfl)) (pa_cons (pe_ix ix_tup (pv 0) pe_int (fun _ _ => rfl)) pa_nil)))))) pss_nil)
      (pss_cons (ps_if (pt_cmpR op_eq (pv 1) pe_str (nomark _)) (pss_one (ps_ret (pe_ifExp (pt_cmp (pc_isN (pe_ix ix_tup (pv 0) pe_int (fun _ _ => rfl)))) (pe_make (E := E0) (dvs := [.non]) m5 G5 (hr.mono (by decide)) (by rfl) g5 b5 r5 passL (pa_cons (pe_ix ix_tup (pv 0) pe_int (fun _ _ => rfl)) pa_nil)) (Kw.pe_makeKw (E := E0) (ks := ["upto", "line"]) m5 G5 (hr.mono (by decide)) (by rfl) g5 b5k passL (pk_cons (pe_ix ix_tup (pv 0) pe_int (fun _ _ => rfl)) (pk_cons (pe_ix ix_tup (pv 0) pe_int (fun _ _ => rfl)) pk_nil)))))) pss_nil)
      (pss_cons (ps_if (pt_cmpR op_eq (pv 1) pe_str (nomark _)) (pss_one (ps_ret (Oo.pe_new00 mCut (by rfl) gCut))) pss_nil)
      (pss_cons (ps_if (pt_cmpR op_in_seq (pv 1) (pe_tup (pa_cons pe_str (pa_cons pe_str pa_nil))) rfl) (pss_one (ps_ret (pe_ifExp (pt_cmpR op_eq (pv 1) pe_str (nomark _)) (Kw.pe_makeKw (E := E0) (ks := ["day"]) m6 G6 (hr.mono (by decide)) (by rfl) g6 b6 passL (pk_cons (pe_ix ix_tup (pv 0) pe_int (fun _ _ => rfl)) pk_nil)) (pe_make (E := E0) m7 G7 (hr.mono (by decide)) (by rfl) g7 b7 .nil passL (pa_cons (pe_ix ix_tup (pv 0) pe_int (fun _ _ => rfl)) pa_nil))))) pss_nil)
      (pss_cons (ps_if (pt_cmpR op_eq (pv 1) pe_str (nomark _)) (pss_one (ps_ret (pe_make (E := E0) m8 G8 (hr.mono (by decide)) (by rfl) g8 b8 .nil passL (pa_cons (pe_ix ix_tup (pv 0) pe_int (fun _ _ => rfl)) (pa_cons (pe_ix ix_tup (pv 0) pe_int (fun _ _ => rfl)) pa_nil))))) pss_nil)
      (pss_cons (ps_if (pt_cmpR op_in_seq (pv 1) (pe_tup (pa_cons pe_str (pa_cons pe_str pa_nil))) rfl) (pss_one (ps_ret (pe_ifExp (pt_cmpR op_eq (pv 1) pe_str (nomark _)) (Kw.pe_makeKw (E := E0) (ks := ["mate", "line"]) m9 G9 (hr.mono (by decide)) (by rfl) g9 b9 passL (pk_cons (pe_ix ix_tup (pv 0) pe_int (fun _ _ => rfl)) (pk_cons (pe_ix ix_tup (pv 0) pe_int (fun _ _ => rfl)) pk_nil))) (pe_make (E := E0) m0 G0 (hr.mono (by decide)) (by rfl) g0 b0 .nil passL (pa_cons (pe_ix ix_tup (pv 0) pe_int (fun _ _ => rfl)) (pa_cons (pe_ix ix_tup (pv 0) pe_int (fun _ _ => rfl)) pa_nil)))))) pss_nil)
      (pss_one (ps_ret (pe_call (E := E0) GB (hr.mono (by decide)) (by rfl) gB kB bB .nil pass0 (pa_cons (pv 0) pa_nil))))))))))))), ?_⟩
    have hs : L2.start scMad_N [.ref A0] = [some (.ref A0), none] := rfl
    rw [hs]
    generalize hz : kd.word = z at hA
    have cs := d_cases hz ok hsh
    have dA : ∀ {H' a1}, Same H H' → ER (tVar 0) [some (.ref A0), a1] H' (AtT (.str z :: xs)) := fun s => er_var (i := 0) rfl stb_t ⟨A0, rfl, s _ _ hA⟩
    refine ER.asg (i := 1) (er_ixT (K := K) (dA same_rfl) (atI_nat (j := 0) rfl) er_c) fun v1 H1 s1 e1 => ?_
    obtain rfl := e1
    show tSeq _ _ _ [some (.ref A0), some (.str z)] H1
    have ix : ∀ {H'} {j : Nat} {v : V}, Same H H' → (V.str z :: xs)[j]? = some v → ER (gD1 K (j : Nat)) [some (.ref A0), some (.str z)] H' (IsV v) := fun s e => er_ixT (dA s) (atI_nat e) er_c
    have iz : ∀ ss : List Str, ss.length ≤ 1000 → ∀ {H'}, TestR (tTest (tOp (rIn K false) (tVar 1) (tTup (tStrs ss)))) [some (.ref A0), some (.str z)] H' (decide (z ∈ ss)) := fun ss h {H'} => in_t (K := K) (i := 1) rfl h
    have eqz : ∀ {x : Str} {H'}, TestR (tTest (tOp rEq (tVar 1) (tC (V.str x)))) [some (.ref A0), some (.str z)] H' (decide (z = x)) := eq_strs (er_v (i := 1) rfl) er_c
    have fin : ∀ {H2} (u : V) (H3 : Hp), Same H H2 → Same H2 H3 → IsG K kd ns up u H3 → Q u H3 := fun u H3 s2 s3 g => q u H3 (s2.trans s3) g
    have sub : ∀ {H2} (p : Kd → Prop), p kd → Same H H2 → spMd K p [.ref A0] H2 Q E0 := fun p hp s => ⟨_, kd, ns, up, rfl, hp, ok, l4, ⟨A0, xs, rfl, by rw [hz]; exact s _ _ hA, sh_same s hsh⟩, fun u H' s' g => q u H' (s.trans s') g⟩
    refine TestR.then (iz ["rise", "night", "renew"] (by decide)) (fun c H2 s2 => ?_) (fun c1 H2 s2 => ?_)
    · exact ⟨_, rfl, sub _ (mk_many hz c) (s1.trans s2)⟩
    have s02 := s1.trans s2
    refine TestR.then (iz ["fix", "unfix"] (by decide)) (fun c H3 s3 => ?_) (fun c2 H3 s3 => ?_)
    · rcases cs with ⟨z1, _⟩ | ⟨z1, _⟩ | ⟨_, e, _, _⟩
      · exact absurd (decide_eq_true z1) (by rw [c1]; exact Bool.false_ne_true)
      · rw [z1] at c; exact absurd c (by decide)
      subst e
      have s03 := s02.trans s3
      refine TestR.ifE eqz (fun d H4 s4 => ?_) (fun d H4 s4 => ?_)
      · have hk := wk1 (b := .fix) hz d
        obtain ⟨v, rfl⟩ := one_of (.inl hk) ok
        exact (e_Fix (K := K) hk ok (era_cons (ix (j := 1) (s03.trans s4) rfl) era_nil)).go fun u H9 s9 g => fin u H9 (s03.trans s4) s9 g
      · have hk := wk2 (a := .fix) (b := .unfix) hz c d
        obtain ⟨v, rfl⟩ := one_of (.inr (.inl hk)) ok
        exact (k_Unfix (K := K) hk ok (era_cons (ix (j := 1) (s03.trans s4) rfl) era_nil)).go fun u H9 s9 g => fin u H9 (s03.trans s4) s9 g
    have s03 := s02.trans s3
    refine TestR.then (iz ["carry", "drop"] (by decide)) (fun c H4 s4 => ?_) (fun c3 H4 s4 => ?_)
    · rcases cs with ⟨z1, _⟩ | ⟨z1, _⟩ | ⟨_, e, _, _⟩
      · exact absurd (decide_eq_true z1) (by rw [c1]; exact Bool.false_ne_true)
      · rw [z1] at c; exact absurd c (by decide)
      subst e
      have s04 := s03.trans s4
      refine TestR.ifE eqz (fun d H5 s5 => ?_) (fun d H5 s5 => ?_)
      · have hk := wk1 (b := .carry) hz d
        obtain ⟨v, u, rfl⟩ := two_of (.inl hk) ok
        exact (k_Carry (K := K) hk ok (era_cons (ix (j := 2) (s04.trans s5) rfl) (era_cons (ix (j := 1) (s04.trans s5) rfl) era_nil))).go fun u H9 s9 g => fin u H9 (s04.trans s5) s9 g
      · have hk := wk2 (a := .carry) (b := .drop) hz c d
        obtain ⟨v, u, rfl⟩ := two_of (.inr (.inl hk)) ok
        exact (e_Drop (K := K) hk ok (era_cons (ix (j := 1) (s04.trans s5) rfl) (era_cons (ix (j := 2) (s04.trans s5) rfl) era_nil))).go fun u H9 s9 g => fin u H9 (s04.trans s5) s9 g
    have s04 := s03.trans s4
    refine TestR.then eqz (fun c H5 s5 => ?_) (fun c4 H5 s5 => ?_)
    · have hk := wk1 (b := .merge) hz c
      have s05 := s04.trans s5
      rcases cs with ⟨z1, _⟩ | ⟨_, l, rfl, rfl⟩ | ⟨z1, _⟩
      · exact absurd (decide_eq_true z1) (by rw [c1]; exact Bool.false_ne_true)
      · have tn : TestR (tB (tIsN (gD1 K (2 : Nat)))) [some (.ref A0), some (.str z)] H5 (decide (up = .non)) := fun H6 s6 F k => ix (j := 2) s05 rfl H6 s6 _ fun y H7 s7 e => by
          obtain rfl := e
          exact ⟨_, rfl, k H7 s7⟩
        refine TestR.ifE tn (fun d H6 s6 => ?_) (fun d H6 s6 => ?_)
        · have d := of_decide_eq_true d
          subst d
          exact (e_Merge (K := K) hk ok (era_cons (ix (j := 1) (s05.trans s6) rfl) era_nil)).go fun u H9 s9 g => fin u H9 (s05.trans s6) s9 g
        · exact (k_Merge2 (K := K) hk ok (era_cons (ix (j := 2) (s05.trans s6) rfl) (era_cons (ix (j := 1) (s05.trans s6) rfl) era_nil))).go fun u H9 s9 g => fin u H9 (s05.trans s6) s9 g
      · rw [of_decide_eq_true c] at z1
        exact absurd z1 (by decide)
    have s05 := s04.trans s5
    rcases cs with ⟨z1, _⟩ | ⟨z1, _⟩ | ⟨_, e, _, _⟩
    · exact absurd (decide_eq_true z1) (by rw [c1]; exact Bool.false_ne_true)
    · exact absurd (decide_eq_true z1) (by rw [c4]; exact Bool.false_ne_true)
    subst e
    refine TestR.then eqz (fun c H6 s6 => ?_) (fun c5 H6 s6 => ?_)
    · exact (e_Cut (K := K) (wk1 (b := .cut) hz c) ok).go fun u H9 s9 g => fin u H9 (s05.trans s6) s9 g
    have s06 := s05.trans s6
    refine TestR.then (iz ["redo", "shut"] (by decide)) (fun c H7 s7 => ?_) (fun c6 H7 s7 => ?_)
    · have s07 := s06.trans s7
      refine TestR.ifE eqz (fun d H8 s8 => ?_) (fun d H8 s8 => ?_)
      · have hk := wk1 (b := .redo) hz d
        obtain ⟨v, rfl⟩ := one_of (.inr (.inr (.inl hk))) ok
        exact (k_Redo (K := K) hk ok (era_cons (ix (j := 1) (s07.trans s8) rfl) era_nil)).go fun u H9 s9 g => fin u H9 (s07.trans s8) s9 g
      · have hk := wk2 (a := .redo) (b := .shut) hz c d
        obtain ⟨v, rfl⟩ := one_of (.inr (.inr (.inr (.inl hk)))) ok
        exact (e_Shut (K := K) hk ok (era_cons (ix (j := 1) (s07.trans s8) rfl) era_nil)).go fun u H9 s9 g => fin u H9 (s07.trans s8) s9 g
    have s07 := s06.trans s7
    refine TestR.then eqz (fun c H8 s8 => ?_) (fun c7 H8 s8 => ?_)
    · have hk := wk1 (b := .try_) hz c
      obtain ⟨v, u, rfl⟩ := two_of (.inr (.inr (.inl hk))) ok
      exact (e_Try (K := K) hk ok (era_cons (ix (j := 1) (s07.trans s8) rfl) (era_cons (ix (j := 2) (s07.trans s8) rfl) era_nil))).go fun u H9 s9 g => fin u H9 (s07.trans s8) s9 g
    have s08 := s07.trans s8
    refine TestR.then (iz ["probe", "meet"] (by decide)) (fun c H9 s9 => ?_) (fun c8 H9 s9 => ?_)
    · have s09 := s08.trans s9
      refine TestR.ifE eqz (fun d HA sA => ?_) (fun d HA sA => ?_)
      · have hk := wk1 (b := .probe) hz d
        obtain ⟨v, u, rfl⟩ := two_of (.inr (.inr (.inr (.inl hk)))) ok
        exact (k_Probe (K := K) hk ok (era_cons (ix (j := 2) (s09.trans sA) rfl) (era_cons (ix (j := 1) (s09.trans sA) rfl) era_nil))).go fun u HB sB g => fin u HB (s09.trans sA) sB g
      · have hk := wk2 (a := .probe) (b := .meet_) hz c d
        obtain ⟨v, u, rfl⟩ := two_of (.inr (.inr (.inr (.inr hk)))) ok
        exact (e_Meet (K := K) hk ok (era_cons (ix (j := 1) (s09.trans sA) rfl) (era_cons (ix (j := 2) (s09.trans sA) rfl) era_nil))).go fun u HB sB g => fin u HB (s09.trans sA) sB g
    · exact ⟨_, rfl, sub _ (dk_on hz c1 c2 c3 c4 c5 c6 c7 c8) (s08.trans s9)⟩
end
end K8
set_option Elab.async false
set_option linter.all false
set_option maxRecDepth 100000
set_option maxHeartbeats 4000000
/-! _law_own_lines, _law_own_days, _law_groups. -/
namespace K8
open PySem PySem.Spec PyProof.Rows L2 RV EV He EF EI LamX
def spVv (f : Kd → List V → List V) : Sp := fun vs H Q _ => ∃ v k ns up, vs = [v] ∧ DOk k ns up ∧ DAt H v k ns up ∧ ∀ u H', Same H H' → AtT (f k ns) u H' → Q u H'
theorem ol_0 {kd : Kd} {z : Str} {ns : List V} (e : kd.word = z) (c : decide (z ∈ (["fix", "unfix", "cut"] : List Str)) = true) : kd.ol ns = [.int 0] := by
  have hk : kd = .fix ∨ kd = .unfix ∨ kd = .cut := by
    subst e
    revert c
    cases kd <;> decide
  rcases hk with rfl | rfl | rfl <;> rfl
theorem ol_d {kd : Kd} {z : Str} {ns : List V} (e : kd.word = z) (c : decide (z ∈ (["redo", "renew", "shut"] : List Str)) = true) : kd.ol ns = [] := by
  have hk : kd = .redo ∨ kd = .renew ∨ kd = .shut := by
    subst e
    revert c
    cases kd <;> decide
  rcases hk with rfl | rfl | rfl <;> rfl
theorem ints_fil (is : List Int) : (is.map V.int).filter isIV = is.map V.int := List.filter_eq_self.mpr fun v hv => by
  obtain ⟨i, _, rfl⟩ := List.mem_map.mp hv
  rfl
theorem ol_m {kd : Kd} {z : Str} {ns : List V} {up : V} (e : kd.word = z) (ok : DOk kd ns up) (c : decide (z ∈ (["rise", "night"] : List Str)) = true) : kd.ol ns = ns := by
  have hk : kd = .rise ∨ kd = .night := by
    subst e
    clear ok
    revert c
    cases kd <;> decide
  rcases hk with rfl | rfl <;> (obtain ⟨is, rfl, _⟩ := ok; exact ints_fil is)
theorem ol_c {kd : Kd} {z : Str} {ns : List V} {up : V} (e : kd.word = z) (ok : DOk kd ns up) (c : decide (z ∈ (["carry", "drop"] : List Str)) = true) : ∃ v l, ns = [v, l] ∧ kd.ol ns = [l] := by
  have hk : kd = .carry ∨ kd = .drop := by
    subst e
    clear ok
    revert c
    cases kd <;> decide
  rcases hk with rfl | rfl <;> (obtain ⟨⟨x, l, rfl, _⟩, _⟩ := ok; exact ⟨_, _, rfl, rfl⟩)
theorem ol_l {kd : Kd} {z : Str} {ns : List V} {up : V} (e : kd.word = z) (ok : DOk kd ns up) (c1 : decide (z ∈ (["fix", "unfix", "cut"] : List Str)) = false) (c2 : decide (z ∈ (["redo", "renew", "shut"] : List Str)) = false) (c3 : decide (z ∈ (["rise", "night"] : List Str)) = false)
    (c4 : decide (z ∈ (["carry", "drop"] : List Str)) = false) : ∃ l r, ns = l :: r ∧ kd.ol ns = [l] := by
  have hk : kd = .merge ∨ kd = .end_ ∨ kd = .offer ∨ kd = .live ∨ kd = .down ∨ kd = .day ∨ kd = .try_ ∨ kd = .probe ∨ kd = .meet_ := by
    subst e
    clear ok
    revert c1 c2 c3 c4
    cases kd <;> decide
  rcases hk with rfl | rfl | rfl | rfl | rfl | rfl | rfl | rfl | rfl
  · obtain ⟨⟨l, rfl, _⟩, _⟩ := ok; exact ⟨_, _, rfl, rfl⟩
  · obtain ⟨⟨l, rfl, _⟩, _⟩ := ok; exact ⟨_, _, rfl, rfl⟩
  · obtain ⟨⟨l, rfl, _⟩, _⟩ := ok; exact ⟨_, _, rfl, rfl⟩
  · obtain ⟨⟨l, rfl, _⟩, _⟩ := ok; exact ⟨_, _, rfl, rfl⟩
  · obtain ⟨⟨l, rfl, _⟩, _⟩ := ok; exact ⟨_, _, rfl, rfl⟩
  · obtain ⟨⟨l, rfl, _⟩, _⟩ := ok; exact ⟨_, _, rfl, rfl⟩
  · obtain ⟨⟨l, m, rfl, _⟩, _⟩ := ok; exact ⟨_, _, rfl, rfl⟩
  · obtain ⟨⟨l, m, rfl, _⟩, _⟩ := ok; exact ⟨_, _, rfl, rfl⟩
  · obtain ⟨⟨l, m, rfl, _⟩, _⟩ := ok; exact ⟨_, _, rfl, rfl⟩
theorem od_r {kd : Kd} {z : Str} {ns : List V} (e : kd.word = z) (c : decide (z = "renew") = true) : kd.od ns = ns := by
  have hk := wk1 (b := .renew) e c
  subst hk
  rfl
theorem od_y {kd : Kd} {z : Str} {ns : List V} {up : V} (e : kd.word = z) (ok : DOk kd ns up) (c : decide (z ∈ (["redo", "shut"] : List Str)) = true) : ∃ d, ns = [d] ∧ kd.od ns = [d] := by
  have hk : kd = .redo ∨ kd = .shut := by
    subst e
    clear ok
    revert c
    cases kd <;> decide
  rcases hk with rfl | rfl <;> (obtain ⟨⟨x, rfl, _⟩, _⟩ := ok; exact ⟨_, rfl, rfl⟩)
theorem od_n {kd : Kd} {z : Str} {ns : List V} (e : kd.word = z) (c1 : decide (z = "renew") = false) (c2 : decide (z ∈ (["redo", "shut"] : List Str)) = false) : kd.od ns = [] := by
  subst e
  revert c1 c2
  cases kd <;> first | (intro _ _; rfl) | (intro c1 c2; exact absurd c1 (by decide)) | (intro c1 c2; exact absurd c2 (by decide))
section
variable {P : Program} {w : World} {K : PySem.W.Frag} {mg : Str → Option Value} {base : Heap} {σ : L2.St} {H : Hp} {te : TE} {v : V}
theorem in_sF {x : Str} {ss : List Str} (ha : ER te σ H (IsV (.str x))) (hz : ss.length ≤ 1000) : TestR (tTest (tOp (rIn K false) te (tTup (tStrs ss)))) σ H (decide (x ∈ ss)) := in_strs (K := K) (neg := false) ha hz
theorem er_tup1 (h : ER te σ H (IsV v)) : ER (tTup (tCons te tNil)) σ H (AtT [v]) := fun H1 s1 F q => h H1 s1 _ fun u H2 s2 e => ⟨by show 1 ≤ sizeLine; rw [sizeLine_eq]; decide, fun p np => by
  obtain rfl := e
  exact q _ _ (s2.trans (same_new np)) ⟨p, rfl, upd_same⟩⟩
theorem er_tup0 : ER (tTup tNil) σ H (AtT []) := fun H1 s1 F q => ⟨by show 0 ≤ sizeLine; rw [sizeLine_eq]; decide, fun p np => q _ _ (same_new np) ⟨p, rfl, upd_same⟩⟩
theorem scLo : FnScope ["_law_deed"] ["_law_deed"] (defScope (top 80)) := ⟨rfl, rfl, rfl, by decide +kernel, rfl, by decide +kernel, by decide +kernel⟩
theorem c_lol (T : KF P w K mg base) : Callee P w K mg base CX0 1 "_law_own_lines" ["_law_deed"] (spVv Kd.ol) := by
  obtain ⟨fd, F, gg⟩ := T.tops ("_law_own_lines", 80) (by decide)
  refine ⟨fd, F.ok scLo (fun vs H Q E h => ?_) (fun cdv A outer s H vs Q E hr h => ?_), FunD.bindsN F fun _ _ _ _ _ _ us hl => match us, hl with | [_], _ => rfl, F.kp, gg⟩
  · obtain ⟨v, _, _, _, rfl, _⟩ := h
    rfl
  · obtain ⟨v, kd, ns, up, rfl, ok, ⟨A0, xs, rfl, hA, hsh⟩, q⟩ := h
    refine ⟨_, PSs.nox (pss_cons (ps_if (pt_cmpR op_in_seq (pe_ix ix_tup (pv 0) pe_int (fun _ _ => rfl)) (pe_tup (pa_cons pe_str (pa_cons pe_str (pa_cons pe_str pa_nil)))) rfl) (pss_one (ps_ret (pe_tup (pa_cons pe_int pa_nil)))) pss_nil)
      (pss_cons (ps_if (pt_cmpR op_in_seq (pe_ix ix_tup (pv 0) pe_int (fun _ _ => rfl)) (pe_tup (pa_cons pe_str (pa_cons pe_str (pa_cons pe_str pa_nil)))) rfl) (pss_one (ps_ret (pe_tup pa_nil))) pss_nil)
      (pss_cons (ps_if (pt_cmpR op_in_seq (pe_ix ix_tup (pv 0) pe_int (fun _ _ => rfl)) (pe_tup (pa_cons pe_str (pa_cons pe_str pa_nil))) rfl) (pss_one (ps_ret (pe_ix ix_tup (pv 0) pe_int (fun _ _ => rfl)))) pss_nil)
      (pss_one (ps_ret (pe_tup (pa_cons (pe_ifExp (pt_cmpR op_in_seq (pe_ix ix_tup (pv 0) pe_int (fun _ _ => rfl)) (pe_tup (pa_cons pe_str (pa_cons pe_str pa_nil))) rfl) (pe_ix ix_tup (pv 0) pe_int (fun _ _ => rfl)) (pe_ix ix_tup (pv 0) pe_int (fun _ _ => rfl))) pa_nil))))))), ?_⟩
    have hs : L2.start ["_law_deed"] [.ref A0] = [some (.ref A0)] := rfl
    rw [hs]
    generalize hz : kd.word = z at hA
    have cs := d_cases hz ok hsh
    have dA : ∀ {H'}, Same H H' → ER (tVar 0) [some (.ref A0)] H' (AtT (.str z :: xs)) := fun s => er_var (i := 0) rfl stb_t ⟨A0, rfl, s _ _ hA⟩
    have ix : ∀ {H'} {j : Nat} {v : V}, Same H H' → (V.str z :: xs)[j]? = some v → ER (gD1 K (j : Nat)) [some (.ref A0)] H' (IsV v) := fun s e => er_ixT (dA s) (atI_nat e) er_c
    have fin : ∀ {H2} {ys : List V} (u : V) (H3 : Hp), kd.ol ns = ys → Same H H2 → Same H2 H3 → AtT ys u H3 → Q u H3 := fun u H3 e s2 s3 g => q u H3 (s2.trans s3) (by rw [e]; exact g)
    refine TestR.then (in_sF (K := K) (ss := ["fix", "unfix", "cut"]) (ix (j := 0) same_rfl rfl) (by decide)) (fun c H1 s1 => ?_) (fun c1 H1 s1 => ?_)
    · exact (er_tup1 (σ := [some (.ref A0)]) (H := H1) er_c).go fun u H9 s9 g => fin u H9 (ol_0 hz c) s1 s9 g
    refine TestR.then (in_sF (K := K) (ss := ["redo", "renew", "shut"]) (ix (j := 0) s1 rfl) (by decide)) (fun c H2 s2 => ?_) (fun c2 H2 s2 => ?_)
    · exact (er_tup0 (σ := [some (.ref A0)]) (H := H2)).go fun u H9 s9 g => fin u H9 (ol_d hz c) (s1.trans s2) s9 g
    have s12 := s1.trans s2
    refine TestR.then (in_sF (K := K) (ss := ["rise", "night"]) (ix (j := 0) s12 rfl) (by decide)) (fun c H3 s3 => ?_) (fun c3 H3 s3 => ?_)
    · rcases cs with ⟨_, T1, rfl, hT⟩ | ⟨z1, _⟩ | ⟨z1, _⟩
      · refine (ix (j := 1) (v := .ref T1) (s12.trans s3) rfl).go fun u H9 s9 e => ?_
        obtain rfl := e
        exact fin _ H9 (ol_m hz ok c) (s12.trans s3) s9 ⟨T1, rfl, s9 _ _ (s3 _ _ (s12 _ _ hT))⟩
      · rw [z1] at c; exact absurd c (by decide)
      · exact absurd (by
          rcases List.mem_cons.mp (of_decide_eq_true c) with h | h
          · rw [h]; decide
          · rw [List.mem_singleton.mp h]; decide) z1
    have s13 := s12.trans s3
    have ev : ∃ l, kd.ol ns = [l] ∧ ER (tIf (tTest (tOp (rIn K false) (gD1 K (0 : Nat)) (tTup (tStrs ["carry", "drop"])))) (gD1 K (2 : Nat)) (gD1 K (1 : Nat))) [some (.ref A0)] H3 (IsV l) := by
      by_cases c : decide (z ∈ (["carry", "drop"] : List Str)) = true
      · obtain ⟨x, l, e, eo⟩ := ol_c hz ok c
        rcases cs with ⟨z1, _⟩ | ⟨z1, _⟩ | ⟨_, ex, _⟩
        · exact absurd (decide_eq_true (p := z ∈ (["rise", "night"] : List Str)) (by
            rcases List.mem_cons.mp z1 with h | h
            · rw [h]; decide
            · rcases List.mem_cons.mp h with h | h
              · rw [h]; decide
              · rw [List.mem_singleton.mp h] at c; exact absurd c (by decide))) (by rw [c3]; exact Bool.false_ne_true)
        · rw [z1] at c; exact absurd c (by decide)
        · refine ⟨l, eo, er_ifE (in_sF (K := K) (ss := ["carry", "drop"]) (ix (j := 0) s13 rfl) (by decide)) (fun _ => ix (j := 2) s13 (by rw [ex, e]; rfl)) (fun d => absurd c (by rw [show decide (z ∈ (["carry", "drop"] : List Str)) = false from d]; exact Bool.false_ne_true))⟩
      · have c4 : decide (z ∈ (["carry", "drop"] : List Str)) = false := Bool.not_eq_true _ ▸ c
        obtain ⟨l, r, e, eo⟩ := ol_l hz ok c1 c2 c3 c4
        have e1 : xs[0]? = some l := by
          rcases cs with ⟨z1, _⟩ | ⟨_, l0, e0, ex⟩ | ⟨_, ex, _⟩
          · rcases List.mem_cons.mp z1 with h | h
            · rw [h] at c3; exact absurd c3 (by decide)
            · rcases List.mem_cons.mp h with h | h
              · rw [h] at c3; exact absurd c3 (by decide)
              · rw [List.mem_singleton.mp h] at c2; exact absurd c2 (by decide)
          · rw [ex]
            rw [e0] at e
            cases e
            rfl
          · rw [ex, e]; rfl
        exact ⟨l, eo, er_ifE (in_sF (K := K) (ss := ["carry", "drop"]) (ix (j := 0) s13 rfl) (by decide)) (fun d => absurd d c) (fun _ => ix (j := 1) s13 (by rw [List.getElem?_cons_succ]; exact e1))⟩
    obtain ⟨l, eo, ev⟩ := ev
    exact (er_tup1 ev).go fun u H9 s9 g => fin u H9 eo s13 s9 g
theorem scLd8 : FnScope ["_law_deed"] ["_law_deed"] (defScope (top 81)) := ⟨rfl, rfl, rfl, by decide +kernel, rfl, by decide +kernel, by decide +kernel⟩
theorem c_lod (T : KF P w K mg base) : Callee P w K mg base CX0 1 "_law_own_days" ["_law_deed"] (spVv Kd.od) := by
  obtain ⟨fd, F, gg⟩ := T.tops ("_law_own_days", 81) (by decide)
  refine ⟨fd, F.ok scLd8 (fun vs H Q E h => ?_) (fun cdv A outer s H vs Q E hr h => ?_), FunD.bindsN F fun _ _ _ _ _ _ us hl => match us, hl with | [_], _ => rfl, F.kp, gg⟩
  · obtain ⟨v, _, _, _, rfl, _⟩ := h
    rfl
  · obtain ⟨v, kd, ns, up, rfl, ok, ⟨A0, xs, rfl, hA, hsh⟩, q⟩ := h
    refine ⟨_, PSs.nox (pss_cons (ps_if (pt_cmpR op_eq (pe_ix ix_tup (pv 0) pe_int (fun _ _ => rfl)) pe_str (nomark _)) (pss_one (ps_ret (pe_ix ix_tup (pv 0) pe_int (fun _ _ => rfl)))) pss_nil)
      (pss_one (ps_ret (pe_ifExp (pt_cmpR op_in_seq (pe_ix ix_tup (pv 0) pe_int (fun _ _ => rfl)) (pe_tup (pa_cons pe_str (pa_cons pe_str pa_nil))) rfl) (pe_tup (pa_cons (pe_ix ix_tup (pv 0) pe_int (fun _ _ => rfl)) pa_nil)) (pe_tup pa_nil))))), ?_⟩
    have hs : L2.start ["_law_deed"] [.ref A0] = [some (.ref A0)] := rfl
    rw [hs]
    generalize hz : kd.word = z at hA
    have cs := d_cases hz ok hsh
    have dA : ∀ {H'}, Same H H' → ER (tVar 0) [some (.ref A0)] H' (AtT (.str z :: xs)) := fun s => er_var (i := 0) rfl stb_t ⟨A0, rfl, s _ _ hA⟩
    have ix : ∀ {H'} {j : Nat} {v : V}, Same H H' → (V.str z :: xs)[j]? = some v → ER (gD1 K (j : Nat)) [some (.ref A0)] H' (IsV v) := fun s e => er_ixT (dA s) (atI_nat e) er_c
    have fin : ∀ {H2} {ys : List V} (u : V) (H3 : Hp), kd.od ns = ys → Same H H2 → Same H2 H3 → AtT ys u H3 → Q u H3 := fun u H3 e s2 s3 g => q u H3 (s2.trans s3) (by rw [e]; exact g)
    refine TestR.then (eq_strs (ix (j := 0) same_rfl rfl) er_c) (fun c H1 s1 => ?_) (fun c1 H1 s1 => ?_)
    · rcases cs with ⟨_, T1, rfl, hT⟩ | ⟨z1, _⟩ | ⟨z1, _⟩
      · refine (ix (j := 1) (v := .ref T1) s1 rfl).go fun u H9 s9 e => ?_
        obtain rfl := e
        exact fin _ H9 (od_r hz c) s1 s9 ⟨T1, rfl, s9 _ _ (s1 _ _ hT)⟩
      · rw [z1] at c; exact absurd c (by decide)
      · rw [of_decide_eq_true c] at z1; exact absurd z1 (by decide)
    refine TestR.ifE (in_sF (K := K) (ss := ["redo", "shut"]) (ix (j := 0) s1 rfl) (by decide)) (fun c H2 s2 => ?_) (fun c2 H2 s2 => ?_)
    · obtain ⟨d, e, eo⟩ := od_y hz ok c
      have e1 : xs[0]? = some d := by
        rcases cs with ⟨z1, _⟩ | ⟨z1, _⟩ | ⟨_, ex, _⟩
        · exact absurd c (by
            rcases List.mem_cons.mp z1 with h | h
            · rw [h]; decide
            · rcases List.mem_cons.mp h with h | h
              · rw [h]; decide
              · rw [List.mem_singleton.mp h]; decide)
        · rw [z1] at c; exact absurd c (by decide)
        · rw [ex, e]; rfl
      exact (er_tup1 (ix (j := 1) (s1.trans s2) (by rw [List.getElem?_cons_succ]; exact e1))).go fun u H9 s9 g => fin u H9 eo (s1.trans s2) s9 g
    · exact (er_tup0 (σ := [some (.ref A0)]) (H := H2)).go fun u H9 s9 g => fin u H9 (od_n hz c1 c2) (s1.trans s2) s9 g
end
end K8
set_option Elab.async false
set_option linter.all false
set_option maxRecDepth 100000
set_option maxHeartbeats 1000000
/-! A bound of the length of a repr that the kernel reckons. -/
namespace RV
open PySem PySem.Spec PyProof.Rows L2
mutual
def up : PyData → Nat
  | .none => 4
  | .bool _ => 5
  | .int i => (PyData.shown (.int i)).length
  | .str x => if x.cps.toList.all (fun c => decide (c < 16 ^ 8)) = true then 10 * x.length + 2 else (PyData.shown (.str x)).length
  | .list xs => upAll xs + 3
  | .tuple xs => upAll xs + 3
  | .dict kvs => upKv kvs + 3
def upAll : List PyData → Nat
  | [] => 0
  | x :: xs => up x + 2 + upAll xs
def upKv : List (PyData × PyData) → Nat
  | [] => 0
  | (k, v) :: r => up k + up v + 4 + upKv r
end
theorem listText_up (ts : List Str) : (listText ts).length ≤ piled ts + 2 := by
  cases ts with
  | nil => exact Nat.le_of_eq (by rw [listText_nil]; rfl)
  | cons t r =>
    have h := textFrom_length_pos r 1 (("[" : Str) ++ (if (0 : Nat) > 0 then ", " else "" : String) ++ t) (Nat.succ_pos 0)
    have e : ((("[" : Str) ++ (if (0 : Nat) > 0 then ", " else "" : String) ++ t)).length = 1 + t.length := by
      rw [strLen_append, strLen_append]
      rfl
    have z : (listText (t :: r)).length = (textFrom 1 (("[" : Str) ++ (if (0 : Nat) > 0 then ", " else "" : String) ++ t) r).length + 1 := by
      show (textFrom 1 _ r ++ ("]" : Str)).length = _
      rw [strLen_append]
      rfl
    rw [z, h, e, piled_cons]
    omega
theorem join_up (ts : List Str) : (Str.join ", " ts).length ≤ piled ts := by
  cases ts with
  | nil => exact Nat.le_of_eq rfl
  | cons t r =>
    have := join_length_add (t :: r) (by simp)
    omega
theorem tupleText_up (ts : List Str) : (tupleText ts).length ≤ piled ts + 3 := by
  have h := join_up ts
  unfold tupleText
  rw [strLen_append, strLen_append]
  have e : (("(" : Str)).length = 1 := rfl
  have e2 : ((if ts.length == 1 then ",)" else ")" : String) : Str).length ≤ 2 := by
    split
    · exact Nat.le_of_eq rfl
    · exact Nat.le_trans (Nat.le_of_eq rfl) (by decide : 1 ≤ 2)
  omega
theorem dictText_up (ts : List Str) : (dictText ts).length ≤ piled ts + 2 := by
  have h := join_up ts
  unfold dictText
  rw [strLen_append, strLen_append]
  have e : (("{" : Str)).length = 1 := rfl
  have e2 : (("}" : Str)).length = 1 := rfl
  omega
mutual
theorem up_ok : ∀ d : PyData, d.shown.length ≤ up d
  | .none => Nat.le_of_eq rfl
  | .bool b => by cases b <;> (simp only [PyData.shown, up]; decide)
  | .int i => by
    simp only [up]
    exact Nat.le_refl _
  | .str x => by
    simp only [up]
    split
    · rename_i h
      simp only [PyData.shown]
      exact StrLaws.reprText_len x fun c hc => of_decide_eq_true (List.all_eq_true.mp h c hc)
    · exact Nat.le_refl _
  | .list xs => by
    simp only [up, PyData.shown]
    have := listText_up (PyData.shownAll xs)
    have := upAll_ok xs
    omega
  | .tuple xs => by
    simp only [up, PyData.shown]
    have := tupleText_up (PyData.shownAll xs)
    have := upAll_ok xs
    omega
  | .dict kvs => by
    simp only [up, PyData.shown]
    have := dictText_up (PyData.shownKv kvs)
    have := upKv_ok kvs
    omega
theorem upAll_ok : ∀ xs : List PyData, piled (PyData.shownAll xs) ≤ upAll xs
  | [] => by
    simp only [upAll, PyData.shownAll, piled_nil]
    exact Nat.le_refl _
  | x :: xs => by
    simp only [upAll, PyData.shownAll, piled_cons]
    have := up_ok x
    have := upAll_ok xs
    omega
theorem upKv_ok : ∀ kvs : List (PyData × PyData), piled (PyData.shownKv kvs) ≤ upKv kvs
  | [] => by
    simp only [upKv, PyData.shownKv, piled_nil]
    exact Nat.le_refl _
  | (k, v) :: r => by
    simp only [upKv, PyData.shownKv, piled_cons]
    have h1 := up_ok k
    have h2 := up_ok v
    have h3 := upKv_ok r
    rw [strLen_append, strLen_append]
    have e : ((": " : String) : Str).length = 2 := rfl
    omega
end
end RV
set_option Elab.async false
set_option linter.all false
set_option maxRecDepth 100000
set_option maxHeartbeats 4000000
/-! _law_groups, _law_kept. -/
namespace K8
open PySem PySem.Spec PyProof.Rows L2 RV EV He EF EI LamX
def grpV (k : Kd) : List V := (["OnMain", "OnLine", "OfTwo", "OfMany", "OfDay"] : List Str).map fun d => V.bl (k.ups.contains d)
theorem grp_eq {kd : Kd} {z : Str} (e : kd.word = z) : [V.bl (decide (z ∈ (["fix", "unfix", "cut"] : List Str))), V.bl (decide (z ∈ (["carry", "drop", "merge", "end", "offer", "live", "down", "day"] : List Str))), V.bl (decide (z ∈ (["try", "probe", "meet"] : List Str)))] ++
    [V.bl (decide (z ∈ (["merge", "rise", "night", "renew"] : List Str))), V.bl (decide (z ∈ (["redo", "renew", "shut"] : List Str)))] = grpV kd := by
  subst e
  cases kd <;> decide
def dV (v : V) : PyData := match v with
  | .int i => .int i
  | .str x => .str x
  | _ => .none
theorem dV_dat {H : Hp} {v : V} (h : v = .non ∨ TxW v) : Dat H v (dV v) := by
  rcases h with rfl | ⟨x, rfl, _⟩ | ⟨i, rfl, _⟩
  · exact .non
  · exact .str x
  · exact .int i
theorem dVs_dat {H : Hp} : ∀ {ns : List V}, (∀ v ∈ ns, TxW v) → Dats H ns (ns.map dV)
  | [], _ => .nil
  | v :: ns, h => .cons (dV_dat (.inr (h v (by simp)))) (dVs_dat fun u hu => h u (by simp [hu]))
/-- what repr may be asked of -/
def ShD (d : PyData) : Prop := d.showable = true ∧ d.depth ≤ 20 ∧ d.shown.length ≤ sizeLine
def okD (d : PyData) (n : Nat) : Prop := d.showable = true ∧ RV.up d ≤ n
theorem dV_ok {v : V} (h : v = .non ∨ TxW v) : okD (dV v) 640 ∧ (dV v).depth = 0 := by
  rcases h with rfl | ⟨x, rfl, h⟩ | ⟨i, rfl, h⟩
  · exact ⟨⟨rfl, by decide⟩, rfl⟩
  · refine ⟨⟨rfl, ?_⟩, rfl⟩
    have a : x.cps.toList.all (fun c => decide (c < 16 ^ 8)) = true := List.all_eq_true.mpr fun c hc => decide_eq_true (Nat.lt_of_lt_of_le (h.2.1.1 c hc) (by decide))
    have e : RV.up (dV (.str x)) = 10 * x.length + 2 := by
      show (if x.cps.toList.all (fun c => decide (c < 16 ^ 8)) = true then 10 * x.length + 2 else _) = _
      rw [if_pos a]
    rw [e]
    have := h.2.1.2
    omega
  · obtain ⟨a, b, _⟩ := lenV h
    exact ⟨⟨decide_eq_true a, b⟩, rfl⟩
theorem dVs_ok : ∀ {ns : List V}, (∀ v ∈ ns, v = .non ∨ TxW v) → PyData.showableAll (ns.map dV) = true ∧ RV.upAll (ns.map dV) ≤ 642 * ns.length ∧ PyData.depthAll (ns.map dV) = 0
  | [], _ => ⟨rfl, Nat.le_refl _, rfl⟩
  | v :: ns, h => by
    obtain ⟨a, b, c⟩ := dVs_ok fun u hu => h u (List.mem_cons_of_mem _ hu)
    obtain ⟨⟨p, q⟩, r⟩ := dV_ok (h v (by simp))
    refine ⟨?_, ?_, ?_⟩
    · show (PyData.showable (dV v) && PyData.showableAll (ns.map dV)) = true
      rw [p, a]
      rfl
    · show RV.up (dV v) + 2 + RV.upAll (ns.map dV) ≤ _
      rw [List.length_cons]
      omega
    · show max (PyData.depth (dV v)) (PyData.depthAll (ns.map dV)) = 0
      rw [r, c]
      rfl
theorem sh_list {ns : List V} (h : ∀ v ∈ ns, v = .non ∨ TxW v) (hl : ns.length ≤ 60) : ShD (.list (ns.map dV)) := by
  obtain ⟨a, b, c⟩ := dVs_ok h
  refine ⟨a, ?_, Nat.le_trans (RV.up_ok _) ?_⟩
  · show PyData.depthAll (ns.map dV) + 1 ≤ 20
    rw [c]
    decide
  · show RV.upAll (ns.map dV) + 3 ≤ sizeLine
    rw [sizeLine_eq]
    omega
theorem sh_many {ns : List V} {u : V} (h : ∀ v ∈ ns, TxW v) (hu : u = .non ∨ TxW u) (hl : ns.length ≤ 60) : ShD (.list [.tuple (ns.map dV), dV u]) := by
  obtain ⟨a, b, c⟩ := dVs_ok fun v hv => .inr (h v hv)
  obtain ⟨⟨p, q⟩, r⟩ := dV_ok hu
  refine ⟨?_, ?_, Nat.le_trans (RV.up_ok _) ?_⟩
  · show (PyData.showableAll (ns.map dV) && (PyData.showable (dV u) && true)) = true
    rw [a, p]
    rfl
  · show max (PyData.depthAll (ns.map dV) + 1) (max (PyData.depth (dV u)) 0) + 1 ≤ 20
    rw [c, r]
    decide
  · show (RV.upAll (ns.map dV) + 3) + 2 + (RV.up (dV u) + 2 + 0) + 3 ≤ sizeLine
    rw [sizeLine_eq]
    omega
def IsDt (d : PyData) : V → Hp → Prop := fun v H => Dat H v d
theorem stb_d {d : PyData} : Stb (IsDt d) := fun _ _ _ s h => h.same s
abbrev tL1 (t : TA) : TE := fun σ H Q => t σ H fun xs H1 => xs.length ≤ sizeLine ∧ ∀ p, H1 p = none → p ≠ sysModules → Q (.ref p) (upd H1 p (.lst xs))
section
variable {K : PySem.W.Frag} {σ : L2.St} {H : Hp} {t : TA} {te tf : TE} {d : PyData} {ds : List PyData} {R : V → Hp → Prop} {k : Kd} {ns : List V} {up v : V} {f : Str}
/-- values of the data ds -/
def ERD (t : TA) (σ : L2.St) (H : Hp) (ds : List PyData) : Prop := ∀ H1, Same H H1 → ∀ F : List V → Hp → Prop, (∀ vs H2, Same H1 H2 → Dats H2 vs ds → vs.length = ds.length → F vs H2) → t σ H1 F
theorem erd_nil : ERD tNil σ H [] := fun H1 s1 F q => q [] H1 same_rfl .nil rfl
theorem erd_cons (a : ER te σ H R) (ha : ∀ v H', R v H' → Dat H' v d) (b : ERD t σ H ds) : ERD (tCons te t) σ H (d :: ds) := fun H1 s1 F q => a H1 s1 _ fun v H2 s2 e => b H2 (s1.trans s2) _ fun vs H3 s3 hd hl =>
  q (v :: vs) H3 (s2.trans s3) (.cons ((ha v H2 e).same s3) hd) (by simp [hl])
theorem er_lstD (b : ERD t σ H ds) (hz : ds.length ≤ 100) : ER (tL1 t) σ H (IsDt (.list ds)) := fun H1 s1 F q => b H1 s1 _ fun vs H2 s2 hd hl => ⟨by rw [sizeLine_eq]; omega, fun p np ns => q _ _ (s2.trans (same_new np)) (.lst upd_same ns (hd.same (same_new np)))⟩
def IsP2 (d : PyData) : V → Hp → Prop := fun v H => ∃ t l1 l2, v = .ref t ∧ H t = some (.tup [l1, l2]) ∧ Dat H l1 d ∧ Dat H l2 d
theorem stb_p2 : Stb (IsP2 d) := fun _ _ _ s ⟨t, l1, l2, e, h, a, b⟩ => ⟨t, l1, l2, e, s _ _ h, a.same s, b.same s⟩
theorem er_p2 (a : ER te σ H (IsDt d)) (b : ER tf σ H (IsDt d)) : ER (tTup (tCons te (tCons tf tNil))) σ H (IsP2 d) := fun H1 s1 F q => a H1 s1 _ fun v H2 s2 h1 => b H2 (s1.trans s2) _ fun u H3 s3 h2 => ⟨by show 2 ≤ sizeLine; rw [sizeLine_eq]; decide, fun p np =>
  q _ _ ((s2.trans s3).trans (same_new np)) ⟨p, v, u, rfl, upd_same, (h1.same s3).same (same_new np), h2.same (same_new np)⟩⟩
theorem er_fldR (h : ER te σ H (IsG K k ns up)) (cl : Cls K (ga K k.cls)) (no : NoAttr K (ga K k.cls) f) (hf : ∀ H' fs, k.shp.at H' fs ns up → ∃ v, fs.lookup f = some v ∧ R v H') : ER (tFld K te f) σ H R := fun H1 s1 F q => h H1 s1 _ fun u H2 s2 ⟨a, e, hd⟩ => by
  obtain rfl := e
  obtain ⟨dx, fs, ha, hs⟩ := hd.at_
  obtain ⟨v, hv, hr⟩ := hf H2 fs hs
  exact ⟨a, _, dx, fs, v, rfl, ha, cl, no, hv, q _ H2 s2 hr⟩
theorem er_inF {x : Str} {ss : List Str} (ha : ER te σ H (IsV (.str x))) (hz : ss.length ≤ 1000) : ER (tOp (rIn K false) te (tTup (tStrs ss))) σ H (IsV (.bl (decide (x ∈ ss)))) := fun H1 s1 F k => ha H1 s1 _ fun v H2 s2 e => strs_run ⟨by rw [List.length_map, sizeLine_eq]; omega, fun p np => by
  obtain rfl := e
  refine ⟨p, _, rfl, .inr (SqT.of upd_same), rfl, flat_strs ss, ?_⟩
  rw [inV_str]
  exact k _ _ (s2.trans (same_new np)) rfl⟩
theorem er_inLs {x : Str} {ss : List Str} (ha : ER te σ H (IsV (.str x))) (hb : ER tf σ H (AtL (ss.map V.str))) : ER (tOp (rIn K false) te tf) σ H (IsV (.bl (decide (x ∈ ss)))) := ha.op stb_v hb fun u v H1 F s e1 ⟨r, e2, hr⟩ q => by
  obtain rfl := e1
  obtain rfl := e2
  refine ⟨r, _, rfl, .inl (SqL.of hr), rfl, flat_strs ss, ?_⟩
  rw [inV_str]
  exact q _ H1 same_rfl rfl
theorem er_lstA {vs : List V} (b : ERA t σ H vs) (hz : vs.length ≤ 1000) : ER (tLst t) σ H (AtL vs) := fun H1 s1 F q => b H1 s1 _ fun H2 s2 => ⟨by rw [sizeLine_eq]; omega, fun p np => q _ _ (s2.trans (same_new np)) ⟨p, rfl, upd_same⟩⟩
end
section
variable {P : Program} {w : World} {K : PySem.W.Frag} {mg : Str → Option Value} {base : Heap}
def spGr : Sp := fun vs H Q _ => ∃ z k, vs = [.str z] ∧ Kd.word k = z ∧ ∀ u H', Same H H' → AtL (grpV k) u H' → Q u H'
abbrev scGr_N : List Str := ["_law_word", "_law_lines", "_law_found"]
theorem scGr : FnScope scGr_N ["_law_word"] (defScope (top 83)) := ⟨rfl, rfl, rfl, by decide +kernel, rfl, by decide +kernel, by decide +kernel⟩
theorem c_grp (T : KF P w K mg base) : Callee P w K mg base CX0 1 "_law_groups" ["_law_word"] spGr := by
  obtain ⟨fd, F, gg⟩ := T.tops ("_law_groups", 83) (by decide)
  refine ⟨fd, F.ok scGr (fun vs H Q E h => ?_) (fun cdv A outer s H vs Q E hr h => ?_), FunD.bindsN F fun _ _ _ _ _ _ us hl => match us, hl with | [_], _ => rfl, F.kp, gg⟩
  · obtain ⟨z, _, rfl, _⟩ := h
    rfl
  · obtain ⟨z, kd, rfl, hz, q⟩ := h
    have nd := scGr.nd
    refine ⟨_, PSs.nox (pss_cons (ps_set (i := 1) nd rfl (.inl rfl) (pe_lst (pa_cons pe_str (pa_cons pe_str (pa_cons pe_str (pa_cons pe_str (pa_cons pe_str (pa_cons pe_str (pa_cons pe_str (pa_cons pe_str pa_nil))))))))))
      (pss_cons (ps_set (i := 2) nd rfl (.inl rfl) (pe_lst (pa_cons (pe_cmpR op_in_seq (pv 0) (pe_tup (pa_cons pe_str (pa_cons pe_str (pa_cons pe_str pa_nil)))) rfl) (pa_cons (pe_cmpR op_in_seq (pv 0) (pv 1) rfl) (pa_cons (pe_cmpR op_in_seq (pv 0) (pe_tup (pa_cons pe_str (pa_cons pe_str (pa_cons pe_str pa_nil)))) rfl) pa_nil)))))
      (pss_one (ps_ret (pe_op op_cat (pv 2) (pe_lst (pa_cons (pe_cmpR op_in_seq (pv 0) (pe_tup (pa_cons pe_str (pa_cons pe_str (pa_cons pe_str (pa_cons pe_str pa_nil))))) rfl) (pa_cons (pe_cmpR op_in_seq (pv 0) (pe_tup (pa_cons pe_str (pa_cons pe_str (pa_cons pe_str pa_nil)))) rfl) pa_nil)))))))), ?_⟩
    have hs : L2.start scGr_N [.str z] = [some (.str z), none, none] := rfl
    rw [hs]
    refine ER.asg (i := 1) (er_strsL ["carry", "drop", "merge", "end", "offer", "live", "down", "day"] (by decide)) fun v H1 s1 ⟨L, e, hL⟩ => ?_
    obtain rfl := e
    have z0 : ∀ {a b H'}, ER (tVar 0) [some (.str z), a, b] H' (IsV (.str z)) := er_v (i := 0) rfl
    refine ER.asg (i := 2) (er_lstA (era_cons (er_inF (K := K) (ss := ["fix", "unfix", "cut"]) z0 (by decide)) (era_cons (er_inLs (K := K) z0 (er_row (i := 1) rfl hL)) (era_cons (er_inF (K := K) (ss := ["try", "probe", "meet"]) z0 (by decide)) era_nil))) (by simp)) fun v H2 s2 ⟨L2, e, hL2⟩ => ?_
    obtain rfl := e
    refine (er_cat (er_row (i := 2) rfl hL2) (er_lstA (era_cons (er_inF (K := K) (ss := ["merge", "rise", "night", "renew"]) z0 (by decide)) (era_cons (er_inF (K := K) (ss := ["redo", "renew", "shut"]) z0 (by decide)) era_nil)) (by simp)) (by simp)).go fun u H3 s3 g => ?_
    rw [grp_eq hz] at g
    exact q u H3 ((s1.trans s2).trans s3) g
end
end K8
set_option Elab.async false
set_option linter.all false
set_option maxRecDepth 100000
set_option maxHeartbeats 4000000
/-! _law_kept. -/
namespace K8
open PySem PySem.Spec PyProof.Rows L2 RV EV He EF EI LamX
def Kd.flds (k : Kd) : List Str := match k with
  | .fix => ["fix"]
  | .unfix => ["fix"]
  | .cut => []
  | .carry => ["fix", "line"]
  | .drop => ["fix", "line"]
  | .merge => ["line", "upto"]
  | .end_ => ["line"]
  | .offer => ["line"]
  | .live => ["line"]
  | .down => ["line"]
  | .day => ["line"]
  | .try_ => ["line", "mate"]
  | .probe => ["line", "mate"]
  | .meet_ => ["line", "mate"]
  | .rise => ["lines", "upto"]
  | .night => ["lines", "upto"]
  | .redo => ["day"]
  | .renew => ["days", "upto"]
  | .shut => ["day"]
theorem Kd.noN_ (k : Kd) : ∀ f ∈ k.flds, (k.cls, f) ∈ noN := by cases k <;> decide
section
variable {P : Program} {w : World} {K : PySem.W.Frag} {mg : Str → Option Value} {base : Heap} {σ : L2.St} {H : Hp} {te : TE} {kd : Kd} {ns : List V} {up v u : V} {f g : Str}
/-- an attribute: of one, of two, of a merge, of many -/
theorem a_one (T : KF P w K mg base) (h : ER te σ H (IsG K kd [v] up)) (hs : kd.shp = .pl [f]) (hf : f ∈ kd.flds) : ER (tFld K te f) σ H (IsV v) :=
  er_fldR h (kcls T kd) (T.no _ (kd.noN_ f hf)) fun H' fs hh => by
    rw [hs] at hh
    obtain ⟨_, _, rfl⟩ := hh
    exact ⟨v, by simp [List.lookup], rfl⟩
theorem a_fst (T : KF P w K mg base) (h : ER te σ H (IsG K kd [v, u] up)) (hs : kd.shp = .pl [f, g]) (hf : f ∈ kd.flds) : ER (tFld K te f) σ H (IsV v) :=
  er_fldR h (kcls T kd) (T.no _ (kd.noN_ f hf)) fun H' fs hh => by
    rw [hs] at hh
    obtain ⟨_, _, rfl⟩ := hh
    exact ⟨v, by simp [List.lookup], rfl⟩
theorem a_snd (T : KF P w K mg base) (h : ER te σ H (IsG K kd [v, u] up)) (hs : kd.shp = .pl [f, g]) (hf : g ∈ kd.flds) (ne : (g == f) = false) : ER (tFld K te g) σ H (IsV u) :=
  er_fldR h (kcls T kd) (T.no _ (kd.noN_ g hf)) fun H' fs hh => by
    rw [hs] at hh
    obtain ⟨_, _, rfl⟩ := hh
    exact ⟨u, by simp [List.lookup, ne], rfl⟩
theorem a_mg (T : KF P w K mg base) (h : ER te σ H (IsG K kd [v] up)) (hs : kd.shp = .mg) (hf : ("line" : Str) ∈ kd.flds) : ER (tFld K te "line") σ H (IsV v) :=
  er_fldR h (kcls T kd) (T.no _ (kd.noN_ _ hf)) fun H' fs hh => by
    rw [hs] at hh
    obtain ⟨v', e, rfl⟩ := hh
    cases e
    exact ⟨v, rfl, rfl⟩
theorem a_mgU (T : KF P w K mg base) (h : ER te σ H (IsG K kd ns up)) (hs : kd.shp = .mg) (hf : ("upto" : Str) ∈ kd.flds) : ER (tFld K te "upto") σ H (IsV up) :=
  er_fldR h (kcls T kd) (T.no _ (kd.noN_ _ hf)) fun H' fs hh => by
    rw [hs] at hh
    obtain ⟨v', e, rfl⟩ := hh
    exact ⟨up, rfl, rfl⟩
theorem a_many (T : KF P w K mg base) (h : ER te σ H (IsG K kd ns up)) (hs : kd.shp = .many f) (hf : f ∈ kd.flds) : ER (tFld K te f) σ H (AtT ns) :=
  er_fldR h (kcls T kd) (T.no _ (kd.noN_ _ hf)) fun H' fs hh => by
    rw [hs] at hh
    obtain ⟨t, ht, rfl⟩ := hh
    exact ⟨.ref t, by simp [List.lookup], t, rfl, ht⟩
theorem a_manyU (T : KF P w K mg base) (h : ER te σ H (IsG K kd ns up)) (hs : kd.shp = .many f) (hf : ("upto" : Str) ∈ kd.flds) (ne : (("upto" : Str) == f) = false) : ER (tFld K te "upto") σ H (IsV up) :=
  er_fldR h (kcls T kd) (T.no _ (kd.noN_ _ hf)) fun H' fs hh => by
    rw [hs] at hh
    obtain ⟨t, ht, rfl⟩ := hh
    exact ⟨up, by simp [List.lookup, ne], rfl⟩
end
/-- the data that are kept -/
def kpD (kd : Kd) (ns : List V) (up : V) : PyData := match kd.shp with
  | .pl _ => .list (ns.map dV)
  | .mg => .list (ns.map dV ++ [dV up])
  | .many _ => .list [.tuple (ns.map dV), dV up]
theorem mg_len {kd : Kd} {ns : List V} {up : V} (hs : kd.shp = .mg) (ok : DOk kd ns up) : ns.length = 1 := by
  cases kd <;> first | (cases hs; done) | (obtain ⟨⟨l, rfl, _⟩, _⟩ := ok; rfl)
theorem kp_sh {kd : Kd} {ns : List V} {up : V} (ok : DOk kd ns up) : ShD (kpD kd ns up) := by
  obtain ⟨h1, h2, h3⟩ := dok_tx ok
  unfold kpD
  cases hs : kd.shp with
  | pl gs => exact sh_list (fun v hv => .inr (h1 v hv)) h2
  | many f => exact sh_many h1 h3 h2
  | mg =>
    have e : ns.map dV ++ [dV up] = (ns ++ [up]).map dV := by rw [List.map_append]; rfl
    rw [e]
    have hl := mg_len hs ok
    refine sh_list (fun v hv => ?_) (by rw [List.length_append]; show ns.length + 1 ≤ 60; omega)
    rcases List.mem_append.mp hv with hv | hv
    · exact .inr (h1 v hv)
    · rw [List.mem_singleton.mp hv]
      exact h3
theorem kpD_pl {kd : Kd} {gs : List Str} {ns : List V} {up : V} (hs : kd.shp = .pl gs) : kpD kd ns up = .list (ns.map dV) := by unfold kpD; rw [hs]
theorem kpD_mg {kd : Kd} {v up : V} (hs : kd.shp = .mg) : kpD kd [v] up = .list [dV v, dV up] := by unfold kpD; rw [hs]; rfl
theorem kpD_many {kd : Kd} {f : Str} {ns : List V} {up : V} (hs : kd.shp = .many f) : kpD kd ns up = .list [.tuple (ns.map dV), dV up] := by unfold kpD; rw [hs]
section
variable {P : Program} {w : World} {K : PySem.W.Frag} {mg : Str → Option Value} {base : Heap} {σ : L2.St} {H : Hp} {ta tb tc td : TE} {kd : Kd} {ns : List V} {up v u : V} {f g : Str} {gs : List Str}
theorem p_val (h : v = .non ∨ TxW v) : ∀ x H', IsV v x H' → Dat H' x (dV v) := fun x H' e => by
  obtain rfl := e
  exact dV_dat h
theorem p_tup (h : ∀ v ∈ ns, TxW v) : ∀ x H', AtT ns x H' → Dat H' x (.tuple (ns.map dV)) := fun x H' ⟨t, e, ht⟩ => by
  obtain rfl := e
  exact .tup ht (dVs_dat h)
abbrev tK1 (ta tb : TE) : TE := tTup (tCons (tL1 (tCons ta tNil)) (tCons (tL1 (tCons tb tNil)) tNil))
abbrev tK2 (ta tb tc td : TE) : TE := tTup (tCons (tL1 (tCons ta (tCons tb tNil))) (tCons (tL1 (tCons tc (tCons td tNil))) tNil))
theorem p_one (hs : kd.shp = .pl gs) (hv : TxW v) (a : ER ta σ H (IsV v)) (b : ER tb σ H (IsV v)) : ER (tK1 ta tb) σ H (IsP2 (kpD kd [v] up)) := by
  rw [kpD_pl hs]
  exact er_p2 (er_lstD (erd_cons a (p_val (.inr hv)) erd_nil) (by simp)) (er_lstD (erd_cons b (p_val (.inr hv)) erd_nil) (by simp))
theorem p_two (hs : kd.shp = .pl gs) (hv : TxW v) (hu : TxW u) (a : ER ta σ H (IsV v)) (b : ER tb σ H (IsV u)) (c : ER tc σ H (IsV v)) (d : ER td σ H (IsV u)) : ER (tK2 ta tb tc td) σ H (IsP2 (kpD kd [v, u] up)) := by
  rw [kpD_pl hs]
  exact er_p2 (er_lstD (erd_cons a (p_val (.inr hv)) (erd_cons b (p_val (.inr hu)) erd_nil)) (by simp)) (er_lstD (erd_cons c (p_val (.inr hv)) (erd_cons d (p_val (.inr hu)) erd_nil)) (by simp))
theorem p_mg (hs : kd.shp = .mg) (hv : TxW v) (hu : up = .non ∨ TxW up) (a : ER ta σ H (IsV v)) (b : ER tb σ H (IsV up)) (c : ER tc σ H (IsV v)) (d : ER td σ H (IsV up)) : ER (tK2 ta tb tc td) σ H (IsP2 (kpD kd [v] up)) := by
  rw [kpD_mg hs]
  exact er_p2 (er_lstD (erd_cons a (p_val (.inr hv)) (erd_cons b (p_val hu) erd_nil)) (by simp)) (er_lstD (erd_cons c (p_val (.inr hv)) (erd_cons d (p_val hu) erd_nil)) (by simp))
theorem p_many (hs : kd.shp = .many f) (hv : ∀ v ∈ ns, TxW v) (hu : up = .non ∨ TxW up) (a : ER ta σ H (AtT ns)) (b : ER tb σ H (IsV up)) (c : ER tc σ H (AtT ns)) (d : ER td σ H (IsV up)) : ER (tK2 ta tb tc td) σ H (IsP2 (kpD kd ns up)) := by
  rw [kpD_many hs]
  exact er_p2 (er_lstD (erd_cons a (p_tup hv) (erd_cons b (p_val hu) erd_nil)) (by simp)) (er_lstD (erd_cons c (p_tup hv) (erd_cons d (p_val hu) erd_nil)) (by simp))
theorem p_cut (hk : kd = .cut) (ok : DOk kd ns up) : ER (tTup (tCons (tL1 tNil) (tCons (tL1 tNil) tNil))) σ H (IsP2 (kpD kd ns up)) := by
  subst hk
  obtain ⟨rfl, rfl⟩ := ok
  exact er_p2 (d := .list []) (er_lstD erd_nil (by decide)) (er_lstD erd_nil (by decide))
end
def spKp (K : PySem.W.Frag) : Sp := fun vs H Q _ => ∃ m v k ns up, vs = [m, v] ∧ IsG K k ns up m H ∧ DOk k ns up ∧ DAt H v k ns up ∧ ∀ u H', Same H H' → IsP2 (kpD k ns up) u H' → Q u H'
theorem dk_on2 {kd : Kd} {z : Str} (e : kd.word = z) (c1 : decide (z ∈ (["rise", "night", "renew"] : List Str)) = false) (c2 : decide (z ∈ (["fix", "unfix"] : List Str)) = false) (c3 : decide (z ∈ (["carry", "drop"] : List Str)) = false) (c4 : decide (z = "merge") = false)
    (c5 : decide (z ∈ (["try", "probe", "meet"] : List Str)) = false) (c6 : decide (z ∈ (["redo", "shut"] : List Str)) = false) (c7 : decide (z = "cut") = false) : pOn kd := by
  subst e
  revert c1 c2 c3 c4 c5 c6 c7
  cases kd <;> decide
theorem kp_f1 {kd : Kd} {z : Str} {ns : List V} {up : V} (e : kd.word = z) (ok : DOk kd ns up) (c : decide (z ∈ (["fix", "unfix"] : List Str)) = true) : kd.shp = .pl ["fix"] ∧ ("fix" : Str) ∈ kd.flds ∧ ∃ v, ns = [v] := by
  have hk : kd = .fix ∨ kd = .unfix := by
    subst e
    clear ok
    revert c
    cases kd <;> decide
  rcases hk with rfl | rfl <;> (obtain ⟨⟨x, rfl, _⟩, _⟩ := ok; exact ⟨rfl, by decide, _, rfl⟩)
theorem kp_f2 {kd : Kd} {z : Str} {ns : List V} {up : V} (e : kd.word = z) (ok : DOk kd ns up) (c : decide (z ∈ (["carry", "drop"] : List Str)) = true) : kd.shp = .pl ["fix", "line"] ∧ (("fix" : Str) ∈ kd.flds ∧ ("line" : Str) ∈ kd.flds) ∧ ∃ v u, ns = [v, u] := by
  have hk : kd = .carry ∨ kd = .drop := by
    subst e
    clear ok
    revert c
    cases kd <;> decide
  rcases hk with rfl | rfl <;> (obtain ⟨⟨x, y, rfl, _⟩, _⟩ := ok; exact ⟨rfl, by decide, _, _, rfl⟩)
theorem kp_f3 {kd : Kd} {z : Str} (e : kd.word = z) (c : decide (z = "merge") = true) : kd.shp = .mg ∧ ("line" : Str) ∈ kd.flds ∧ ("upto" : Str) ∈ kd.flds := by
  have hk := wk1 (b := .merge) e c
  subst hk
  exact ⟨rfl, by decide, by decide⟩
theorem kp_f4 {kd : Kd} {z : Str} {ns : List V} {up : V} (e : kd.word = z) (ok : DOk kd ns up) (c : decide (z ∈ (["try", "probe", "meet"] : List Str)) = true) : kd.shp = .pl ["line", "mate"] ∧ (("line" : Str) ∈ kd.flds ∧ ("mate" : Str) ∈ kd.flds) ∧ ∃ v u, ns = [v, u] := by
  have hk : kd = .try_ ∨ kd = .probe ∨ kd = .meet_ := by
    subst e
    clear ok
    revert c
    cases kd <;> decide
  rcases hk with rfl | rfl | rfl <;> (obtain ⟨⟨x, y, rfl, _⟩, _⟩ := ok; exact ⟨rfl, by decide, _, _, rfl⟩)
theorem kp_f5 {kd : Kd} {z : Str} {ns : List V} {up : V} (e : kd.word = z) (ok : DOk kd ns up) (c : decide (z ∈ (["redo", "shut"] : List Str)) = true) : kd.shp = .pl ["day"] ∧ ("day" : Str) ∈ kd.flds ∧ ∃ v, ns = [v] := by
  have hk : kd = .redo ∨ kd = .shut := by
    subst e
    clear ok
    revert c
    cases kd <;> decide
  rcases hk with rfl | rfl <;> (obtain ⟨⟨x, rfl, _⟩, _⟩ := ok; exact ⟨rfl, by decide, _, rfl⟩)
theorem kp_f6 {kd : Kd} {ns : List V} {up : V} (hk : pOn kd) (ok : DOk kd ns up) : kd.shp = .pl ["line"] ∧ ("line" : Str) ∈ kd.flds ∧ ∃ v, ns = [v] := by
  rcases hk with rfl | rfl | rfl | rfl | rfl <;> (obtain ⟨⟨x, rfl, _⟩, _⟩ := ok; exact ⟨rfl, by decide, _, rfl⟩)
theorem kp_f7 {kd : Kd} {z : Str} (e : kd.word = z) (c : decide (z = "renew") = true) : kd.shp = .many "days" ∧ ("days" : Str) ∈ kd.flds ∧ ("upto" : Str) ∈ kd.flds := by
  have hk := wk1 (b := .renew) e c
  subst hk
  exact ⟨rfl, by decide, by decide⟩
theorem kp_f8 {kd : Kd} {z : Str} (e : kd.word = z) (c : decide (z ∈ (["rise", "night", "renew"] : List Str)) = true) (d : decide (z = "renew") = false) : kd.shp = .many "lines" ∧ ("lines" : Str) ∈ kd.flds ∧ ("upto" : Str) ∈ kd.flds := by
  have hk : kd = .rise ∨ kd = .night := by
    subst e
    revert c d
    cases kd <;> decide
  rcases hk with rfl | rfl <;> exact ⟨rfl, by decide, by decide⟩
section
variable {P : Program} {w : World} {K : PySem.W.Frag} {mg : Str → Option Value} {base : Heap}
abbrev scKp_N : List Str := ["_law_made_here", "_law_deed", "_law_word"]
theorem scKp : FnScope scKp_N ["_law_made_here", "_law_deed"] (defScope (top 82)) := ⟨rfl, rfl, rfl, by decide +kernel, rfl, by decide +kernel, by decide +kernel⟩
theorem c_kept (T : KF P w K mg base) : Callee P w K mg base CX0 1 "_law_kept" ["_law_made_here", "_law_deed"] (spKp K) := by
  obtain ⟨fd, F, gg⟩ := T.tops ("_law_kept", 82) (by decide)
  refine ⟨fd, F.ok scKp (fun vs H Q E h => ?_) (fun cdv A outer s H vs Q E hr h => ?_), FunD.bindsN F fun _ _ _ _ _ _ us hl => match us, hl with | [_, _], _ => rfl, F.kp, gg⟩
  · obtain ⟨m, v, _, _, _, rfl, _⟩ := h
    rfl
  · obtain ⟨m, v, kd, ns, up, rfl, hm, ok, ⟨A0, xs, rfl, hA, hsh⟩, q⟩ := h
    have nd := scKp.nd
    refine ⟨_, PSs.nox (pss_cons (ps_set (i := 2) nd rfl (.inl rfl) (pe_ix ix_tup (pv 1) pe_int (fun _ _ => rfl)))
      (pss_cons (ps_if (pt_cmpR op_in_seq (pv 2) (pe_tup (pa_cons pe_str (pa_cons pe_str (pa_cons pe_str pa_nil)))) rfl) (pss_one (ps_ret (pe_tup (pa_cons (pe_lst1 (pa_cons (pe_ifExp (pt_cmpR op_eq (pv 2) pe_str (nomark _)) (pe_fld (pv 0) rfl) (pe_fld (pv 0) rfl)) (pa_cons (pe_fld (pv 0) rfl) pa_nil))) (pa_cons (pe_lst1 (pa_cons (pe_ix ix_tup (pv 1) pe_int (fun _ _ => rfl)) (pa_cons (pe_ix ix_tup (pv 1) pe_int (fun _ _ => rfl)) pa_nil))) pa_nil))))) pss_nil)
      (pss_cons (ps_if (pt_cmpR op_in_seq (pv 2) (pe_tup (pa_cons pe_str (pa_cons pe_str pa_nil))) rfl) (pss_one (ps_ret (pe_tup (pa_cons (pe_lst1 (pa_cons (pe_fld (pv 0) rfl) pa_nil)) (pa_cons (pe_lst1 (pa_cons (pe_ix ix_tup (pv 1) pe_int (fun _ _ => rfl)) pa_nil)) pa_nil))))) pss_nil)
      (pss_cons (ps_if (pt_cmpR op_in_seq (pv 2) (pe_tup (pa_cons pe_str (pa_cons pe_str pa_nil))) rfl) (pss_one (ps_ret (pe_tup (pa_cons (pe_lst1 (pa_cons (pe_fld (pv 0) rfl) (pa_cons (pe_fld (pv 0) rfl) pa_nil))) (pa_cons (pe_lst1 (pa_cons (pe_ix ix_tup (pv 1) pe_int (fun _ _ => rfl)) (pa_cons (pe_ix ix_tup (pv 1) pe_int (fun _ _ => rfl)) pa_nil))) pa_nil))))) pss_nil)
      (pss_cons (ps_if (pt_cmpR op_eq (pv 2) pe_str (nomark _)) (pss_one (ps_ret (pe_tup (pa_cons (pe_lst1 (pa_cons (pe_fld (pv 0) rfl) (pa_cons (pe_fld (pv 0) rfl) pa_nil))) (pa_cons (pe_lst1 (pa_cons (pe_ix ix_tup (pv 1) pe_int (fun _ _ => rfl)) (pa_cons (pe_ix ix_tup (pv 1) pe_int (fun _ _ => rfl)) pa_nil))) pa_nil))))) pss_nil)
      (pss_cons (ps_if (pt_cmpR op_in_seq (pv 2) (pe_tup (pa_cons pe_str (pa_cons pe_str (pa_cons pe_str pa_nil)))) rfl) (pss_one (ps_ret (pe_tup (pa_cons (pe_lst1 (pa_cons (pe_fld (pv 0) rfl) (pa_cons (pe_fld (pv 0) rfl) pa_nil))) (pa_cons (pe_lst1 (pa_cons (pe_ix ix_tup (pv 1) pe_int (fun _ _ => rfl)) (pa_cons (pe_ix ix_tup (pv 1) pe_int (fun _ _ => rfl)) pa_nil))) pa_nil))))) pss_nil)
      (pss_cons (ps_if (pt_cmpR op_in_seq (pv 2) (pe_tup (pa_cons pe_str (pa_cons pe_str pa_nil))) rfl) (pss_one (ps_ret (pe_tup (pa_cons (pe_lst1 (pa_cons (pe_fld (pv 0) rfl) pa_nil)) (pa_cons (pe_lst1 (pa_cons (pe_ix ix_tup (pv 1) pe_int (fun _ _ => rfl)) pa_nil)) pa_nil))))) pss_nil)
      (pss_one (ps_ret (pe_ifExp (pt_cmpR op_eq (pv 2) pe_str (nomark _)) (pe_tup (pa_cons (pe_lst1 pa_nil) (pa_cons (pe_lst1 pa_nil) pa_nil))) (pe_tup (pa_cons (pe_lst1 (pa_cons (pe_fld (pv 0) rfl) pa_nil)) (pa_cons (pe_lst1 (pa_cons (pe_ix ix_tup (pv 1) pe_int (fun _ _ => rfl)) pa_nil)) pa_nil))))))))))))), ?_⟩
    have hs : L2.start scKp_N [m, .ref A0] = [some m, some (.ref A0), none] := rfl
    rw [hs]
    obtain ⟨tw, _, hu⟩ := dok_tx ok
    generalize hz : kd.word = z at hA
    have cs := d_cases hz ok hsh
    have dA : ∀ {H' a1}, Same H H' → ER (tVar 1) [some m, some (.ref A0), a1] H' (AtT (.str z :: xs)) := fun s => er_var (i := 1) rfl stb_t ⟨A0, rfl, s _ _ hA⟩
    refine ER.asg (i := 2) (er_ixT (K := K) (dA same_rfl) (atI_nat (j := 0) rfl) er_c) fun v1 H1 s1 e1 => ?_
    obtain rfl := e1
    show tSeq _ _ _ [some m, some (.ref A0), some (.str z)] H1
    have mA : ∀ {H'}, Same H H' → ER (tVar 0) [some m, some (.ref A0), some (.str z)] H' (IsG K kd ns up) := fun s => er_var (i := 0) rfl stb_g (stb_g _ _ _ s hm)
    have ix : ∀ {H'} {j : Nat} {v : V}, Same H H' → (V.str z :: xs)[j]? = some v → ER (tOp (rIxT K) (tVar 1) (tC (V.int (j : Nat)))) [some m, some (.ref A0), some (.str z)] H' (IsV v) := fun s e => er_ixT (dA s) (atI_nat e) er_c
    have w2 : ∀ {H'}, ER (tVar 2) [some m, some (.ref A0), some (.str z)] H' (IsV (.str z)) := er_v (i := 2) rfl
    have iz : ∀ ss : List Str, ss.length ≤ 1000 → ∀ {H'}, TestR (tTest (tOp (rIn K false) (tVar 2) (tTup (tStrs ss)))) [some m, some (.ref A0), some (.str z)] H' (decide (z ∈ ss)) := fun ss h {H'} => in_sF (K := K) w2 h
    have eqz : ∀ {x : Str} {H'}, TestR (tTest (tOp rEq (tVar 2) (tC (V.str x)))) [some m, some (.ref A0), some (.str z)] H' (decide (z = x)) := eq_strs w2 er_c
    have fin : ∀ {H2} (u : V) (H3 : Hp), Same H H2 → Same H2 H3 → IsP2 (kpD kd ns up) u H3 → Q u H3 := fun u H3 s2 s3 g => q u H3 (s2.trans s3) g
    refine TestR.then (iz ["rise", "night", "renew"] (by decide)) (fun c H2 s2 => ?_) (fun c1 H2 s2 => ?_)
    · have s02 := s1.trans s2
      rcases cs with ⟨_, T1, rfl, hT⟩ | ⟨z1, _⟩ | ⟨z1, _⟩
      · have d1 : ER (tOp (rIxT K) (tVar 1) (tC (V.int (1 : Nat)))) [some m, some (.ref A0), some (.str z)] H2 (AtT ns) := fun H3 s3 F k => ix (j := 1) (v := .ref T1) s02 rfl H3 s3 F fun u H4 s4 e => k u H4 s4 ⟨T1, e, s4 _ _ (s3 _ _ (s02 _ _ hT))⟩
        by_cases d : decide (z = "renew") = true
        · obtain ⟨e1, e2, e3⟩ := kp_f7 hz d
          exact (p_many e1 tw hu (er_ifE (x := true) (fun H3 s3 F k => by have := eqz (x := "renew") H3 s3 F; rw [d] at this; exact this k) (fun _ => a_many T (mA s02) e1 e2) (fun z => nomatch z)) (a_manyU T (mA s02) e1 e3 (by decide)) d1 (ix (j := 2) s02 rfl)).go fun u H9 s9 g => fin u H9 s02 s9 g
        · have d : decide (z = "renew") = false := Bool.not_eq_true _ ▸ d
          obtain ⟨e1, e2, e3⟩ := kp_f8 hz c d
          exact (p_many e1 tw hu (er_ifE (x := false) (fun H3 s3 F k => by have := eqz (x := "renew") H3 s3 F; rw [d] at this; exact this k) (fun z => nomatch z) (fun _ => a_many T (mA s02) e1 e2)) (a_manyU T (mA s02) e1 e3 (by decide)) d1 (ix (j := 2) s02 rfl)).go fun u H9 s9 g => fin u H9 s02 s9 g
      · rw [z1] at c; exact absurd c (by decide)
      · exact absurd (by
          rcases List.mem_cons.mp (of_decide_eq_true c) with h | h
          · rw [h]; decide
          · rcases List.mem_cons.mp h with h | h
            · rw [h]; decide
            · rw [List.mem_singleton.mp h]; decide) z1
    have s02 := s1.trans s2
    -- no such row
    have nm : ∀ {A : Prop}, (z ∈ (["rise", "night", "renew"] : List Str)) → A := fun z1 => absurd (decide_eq_true z1) (by rw [c1]; exact Bool.false_ne_true)
    refine TestR.then (iz ["fix", "unfix"] (by decide)) (fun c H3 s3 => ?_) (fun c2 H3 s3 => ?_)
    · rcases cs with ⟨z1, _⟩ | ⟨z1, _⟩ | ⟨_, ex, _, _⟩
      · exact nm z1
      · rw [z1] at c; exact absurd c (by decide)
      obtain ⟨e1, e2, v, en⟩ := kp_f1 hz ok c
      subst en
      subst ex
      have s03 := s02.trans s3
      exact (p_one e1 (tw v (by simp)) (a_one T (mA s03) e1 e2) (ix (j := 1) s03 rfl)).go fun u H9 s9 g => fin u H9 s03 s9 g
    have s03 := s02.trans s3
    refine TestR.then (iz ["carry", "drop"] (by decide)) (fun c H4 s4 => ?_) (fun c3 H4 s4 => ?_)
    · rcases cs with ⟨z1, _⟩ | ⟨z1, _⟩ | ⟨_, ex, _, _⟩
      · exact nm z1
      · rw [z1] at c; exact absurd c (by decide)
      obtain ⟨e1, ⟨e2, e3⟩, v, u, en⟩ := kp_f2 hz ok c
      subst en
      subst ex
      have s04 := s03.trans s4
      exact (p_two e1 (tw v (by simp)) (tw u (by simp)) (a_fst T (mA s04) e1 e2) (a_snd T (mA s04) e1 e3 (by decide)) (ix (j := 1) s04 rfl) (ix (j := 2) s04 rfl)).go fun u H9 s9 g => fin u H9 s04 s9 g
    have s04 := s03.trans s4
    refine TestR.then eqz (fun c H5 s5 => ?_) (fun c4 H5 s5 => ?_)
    · rcases cs with ⟨z1, _⟩ | ⟨_, l, en, ex⟩ | ⟨z1, _⟩
      · exact nm z1
      · obtain ⟨e1, e2, e3⟩ := kp_f3 hz c
        subst en
        subst ex
        have s05 := s04.trans s5
        exact (p_mg e1 (tw _ (by simp)) hu (a_mg T (mA s05) e1 e2) (a_mgU T (mA s05) e1 e3) (ix (j := 1) s05 rfl) (ix (j := 2) s05 rfl)).go fun u H9 s9 g => fin u H9 s05 s9 g
      · rw [of_decide_eq_true c] at z1; exact absurd z1 (by decide)
    have s05 := s04.trans s5
    rcases cs with ⟨z1, _⟩ | ⟨z1, _⟩ | ⟨_, ex, _, _⟩
    · exact nm z1
    · exact absurd (decide_eq_true z1) (by rw [c4]; exact Bool.false_ne_true)
    subst ex
    refine TestR.then (iz ["try", "probe", "meet"] (by decide)) (fun c H6 s6 => ?_) (fun c5 H6 s6 => ?_)
    · obtain ⟨e1, ⟨e2, e3⟩, v, u, en⟩ := kp_f4 hz ok c
      subst en
      have s06 := s05.trans s6
      exact (p_two e1 (tw v (by simp)) (tw u (by simp)) (a_fst T (mA s06) e1 e2) (a_snd T (mA s06) e1 e3 (by decide)) (ix (j := 1) s06 rfl) (ix (j := 2) s06 rfl)).go fun u H9 s9 g => fin u H9 s06 s9 g
    have s06 := s05.trans s6
    refine TestR.then (iz ["redo", "shut"] (by decide)) (fun c H7 s7 => ?_) (fun c6 H7 s7 => ?_)
    · obtain ⟨e1, e2, v, en⟩ := kp_f5 hz ok c
      subst en
      have s07 := s06.trans s7
      exact (p_one e1 (tw v (by simp)) (a_one T (mA s07) e1 e2) (ix (j := 1) s07 rfl)).go fun u H9 s9 g => fin u H9 s07 s9 g
    have s07 := s06.trans s7
    refine TestR.ifE eqz (fun c H8 s8 => ?_) (fun c7 H8 s8 => ?_)
    · exact (p_cut (wk1 (b := .cut) hz c) ok).go fun u H9 s9 g => fin u H9 (s07.trans s8) s9 g
    · obtain ⟨e1, e2, v, en⟩ := kp_f6 (dk_on2 hz c1 c2 c3 c4 c5 c6 c7) ok
      subst en
      exact (p_one e1 (tw v (by simp)) (a_one T (mA (s07.trans s8)) e1 e2) (ix (j := 1) (s07.trans s8) rfl)).go fun u H9 s9 g => fin u H9 (s07.trans s8) s9 g
end
end K8
set_option Elab.async false
set_option linter.all false
set_option maxRecDepth 100000
set_option maxHeartbeats 4000000
/-! The deeds of _law_unlike_right; lists of deeds. -/
namespace K8
open PySem PySem.Spec PyProof.Rows L2 RV EV He EF EI LamX
abbrev Dd : Type := Kd × List V × V
theorem fxF : FxO "f" := fxs_ok "f" (by decide)
def ulA : List Dd := [(.rise, [V.int 1, V.int 3], .non), (.night, [V.int 1, V.int 3], .non), (.rise, [V.int 1, V.int 2, V.int 3], .non), (.rise, [V.int 1, V.int 2, V.int 3], .int 1), (.rise, [V.int 1, V.int 2, V.int 3], .int 2), (.renew, [V.int 1, V.int 3], .non), (.renew, [V.int 1, V.int 3], .int 1)]
theorem ulA_ok : ∀ d ∈ ulA, DOk d.1 d.2.1 d.2.2 := by
  intro d hd
  simp only [ulA, List.mem_cons, List.not_mem_nil, or_false] at hd
  rcases hd with rfl | rfl | rfl | rfl | rfl | rfl | rfl
  · exact ⟨[1, 3], rfl, by decide, by decide, asc_of (by decide) (by decide), .inl rfl⟩
  · exact ⟨[1, 3], rfl, by decide, by decide, asc_of (by decide) (by decide), .inl rfl⟩
  · exact ⟨[1, 2, 3], rfl, by decide, by decide, asc_of (by decide) (by decide), .inl rfl⟩
  · exact ⟨[1, 2, 3], rfl, by decide, by decide, asc_of (by decide) (by decide), .inr ⟨1, by decide, rfl⟩⟩
  · exact ⟨[1, 2, 3], rfl, by decide, by decide, asc_of (by decide) (by decide), .inr ⟨2, by decide, rfl⟩⟩
  · exact ⟨[1, 3], rfl, by decide, by decide, asc_of (by decide) (by decide), .inl rfl⟩
  · exact ⟨[1, 3], rfl, by decide, by decide, asc_of (by decide) (by decide), .inr ⟨1, by decide, rfl⟩⟩
def ulB : List Dd := [(.redo, [V.int 2], .non), (.shut, [V.int 2], .non), (.renew, [V.int 2], .non), (.fix, [V.str "f"], .non), (.unfix, [V.str "f"], .non), (.carry, [V.str "f", V.int 1], .non), (.drop, [V.str "f", V.int 1], .non), (.end_, [V.int 1], .non), (.offer, [V.int 1], .non), (.live, [V.int 1], .non)]
theorem ulB_ok : ∀ d ∈ ulB, DOk d.1 d.2.1 d.2.2 := by
  intro d hd
  simp only [ulB, List.mem_cons, List.not_mem_nil, or_false] at hd
  rcases hd with rfl | rfl | rfl | rfl | rfl | rfl | rfl | rfl | rfl | rfl
  · exact ⟨⟨2, rfl, by decide, by decide⟩, rfl⟩
  · exact ⟨⟨2, rfl, by decide, by decide⟩, rfl⟩
  · exact ⟨[2], rfl, by decide, by decide, asc_of (by decide) (by decide), .inl rfl⟩
  · exact ⟨⟨"f", rfl, fxF⟩, rfl⟩
  · exact ⟨⟨"f", rfl, fxF⟩, rfl⟩
  · exact ⟨⟨"f", 1, rfl, fxF, by decide, by decide⟩, rfl⟩
  · exact ⟨⟨"f", 1, rfl, fxF, by decide, by decide⟩, rfl⟩
  · exact ⟨⟨1, rfl, by decide, by decide⟩, rfl⟩
  · exact ⟨⟨1, rfl, by decide, by decide⟩, rfl⟩
  · exact ⟨⟨1, rfl, by decide, by decide⟩, rfl⟩
def ulC : List Dd := [(.down, [V.int 1], .non), (.day, [V.int 1], .non), (.merge, [V.int 1], .non), (.merge, [V.int 1], .str "f"), (.try_, [V.int 1, V.int 2], .non), (.probe, [V.int 1, V.int 2], .non), (.meet_, [V.int 1, V.int 2], .non), (.cut, [], .non), (.probe, [V.int 2, V.int 1], .non)]
theorem ulC_ok : ∀ d ∈ ulC, DOk d.1 d.2.1 d.2.2 := by
  intro d hd
  simp only [ulC, List.mem_cons, List.not_mem_nil, or_false] at hd
  rcases hd with rfl | rfl | rfl | rfl | rfl | rfl | rfl | rfl | rfl
  · exact ⟨⟨1, rfl, by decide, by decide⟩, rfl⟩
  · exact ⟨⟨1, rfl, by decide, by decide⟩, rfl⟩
  · exact ⟨⟨1, rfl, by decide, by decide⟩, .inl rfl⟩
  · exact ⟨⟨1, rfl, by decide, by decide⟩, .inr ⟨"f", rfl, fxF⟩⟩
  · exact ⟨⟨1, 2, rfl, by decide, by decide, by decide⟩, rfl⟩
  · exact ⟨⟨1, 2, rfl, by decide, by decide, by decide, by decide, by decide⟩, rfl⟩
  · exact ⟨⟨1, 2, rfl, by decide, by decide, by decide⟩, rfl⟩
  · exact ⟨rfl, rfl⟩
  · exact ⟨⟨2, 1, rfl, by decide, by decide, by decide, by decide, by decide⟩, rfl⟩
def nmA : List Dd := [(.end_, [V.int 2], .non), (.live, [V.int 2], .non), (.down, [V.int 2], .non), (.unfix, [V.str "f"], .non), (.fix, [V.str "f"], .non), (.shut, [V.int 2], .non), (.try_, [V.int 2, V.int 3], .non), (.meet_, [V.int 2, V.int 3], .non)]
theorem nmA_ok : ∀ d ∈ nmA, DOk d.1 d.2.1 d.2.2 := by
  intro d hd
  simp only [nmA, List.mem_cons, List.not_mem_nil, or_false] at hd
  rcases hd with rfl | rfl | rfl | rfl | rfl | rfl | rfl | rfl
  · exact ⟨⟨2, rfl, by decide, by decide⟩, rfl⟩
  · exact ⟨⟨2, rfl, by decide, by decide⟩, rfl⟩
  · exact ⟨⟨2, rfl, by decide, by decide⟩, rfl⟩
  · exact ⟨⟨"f", rfl, fxF⟩, rfl⟩
  · exact ⟨⟨"f", rfl, fxF⟩, rfl⟩
  · exact ⟨⟨2, rfl, by decide, by decide⟩, rfl⟩
  · exact ⟨⟨2, 3, rfl, by decide, by decide, by decide⟩, rfl⟩
  · exact ⟨⟨2, 3, rfl, by decide, by decide, by decide⟩, rfl⟩
def nmB : List Dd := [(.drop, [V.str "f", V.int 2], .non), (.merge, [V.int 2], .non), (.offer, [V.int 2], .non), (.redo, [V.int 2], .non)]
theorem nmB_ok : ∀ d ∈ nmB, DOk d.1 d.2.1 d.2.2 := by
  intro d hd
  simp only [nmB, List.mem_cons, List.not_mem_nil, or_false] at hd
  rcases hd with rfl | rfl | rfl | rfl
  · exact ⟨⟨"f", 2, rfl, fxF, by decide, by decide⟩, rfl⟩
  · exact ⟨⟨2, rfl, by decide, by decide⟩, .inl rfl⟩
  · exact ⟨⟨2, rfl, by decide, by decide⟩, rfl⟩
  · exact ⟨⟨2, rfl, by decide, by decide⟩, rfl⟩
def dT (d : Dd) : Str := dTx d.1 d.2.1 d.2.2
theorem ul_nodup : ((ulA ++ ulB ++ ulC).map dT).Nodup := by decide +kernel
theorem nm_due : (nmA ++ nmB).map dT = (["end 2", "live 2", "down 2", "unfix f", "fix f", "shut 2", "try 2 3", "meet 2 3", "drop f 2", "merge 2", "offer 2", "redo 2"] : List Str) := by decide +kernel
def IsDd (K : PySem.W.Frag) (d : Dd) : V → Hp → Prop := IsG K d.1 d.2.1 d.2.2
structure EachG (K : PySem.W.Frag) (H : Hp) (vs : List V) (ds : List Dd) : Prop where
  len : vs.length = ds.length
  at_ : ∀ (n : Nat) (v : V) (d : Dd), vs[n]? = some v → ds[n]? = some d → IsDd K d v H
theorem EachG.same {K : PySem.W.Frag} {H H' : Hp} {vs : List V} {ds : List Dd} (h : EachG K H vs ds) (s : Same H H') : EachG K H' vs ds := ⟨h.len, fun n v d a b => stb_g _ _ _ s (h.at_ n v d a b)⟩
theorem EachG.nil {K : PySem.W.Frag} {H : Hp} : EachG K H [] [] := ⟨rfl, fun _ _ _ a => nomatch a⟩
theorem EachG.cons {K : PySem.W.Frag} {H : Hp} {v : V} {d : Dd} {vs : List V} {ds : List Dd} (a : IsDd K d v H) (h : EachG K H vs ds) : EachG K H (v :: vs) (d :: ds) := ⟨by simp [h.len], fun n u e x y => by
  cases n with
  | zero =>
    cases x
    cases y
    exact a
  | succ n => exact h.at_ n u e x y⟩
theorem EachG.append {K : PySem.W.Frag} {H : Hp} {us : List V} {es : List Dd} (b : EachG K H us es) : ∀ {vs : List V} {ds : List Dd}, EachG K H vs ds → EachG K H (vs ++ us) (ds ++ es)
  | [], [], _ => b
  | v :: vs, d :: ds, h => .cons (h.at_ 0 v d rfl rfl) (EachG.append b ⟨by have := h.len; simpa using this, fun n u e x y => h.at_ (n + 1) u e x y⟩)
  | [], _ :: _, h => nomatch h.len
  | _ :: _, [], h => nomatch h.len
def AtG (K : PySem.W.Frag) (ds : List Dd) : V → Hp → Prop := fun v H => ∃ l vs, v = .ref l ∧ H l = some (.lst vs) ∧ EachG K H vs ds
theorem stb_gs {K : PySem.W.Frag} {ds : List Dd} : Stb (AtG K ds) := fun _ _ _ s ⟨l, vs, e, h, g⟩ => ⟨l, vs, e, s _ _ h, g.same s⟩
section
variable {K : PySem.W.Frag} {σ : L2.St} {H : Hp} {t : TA} {te ta tb : TE} {d : Dd} {ds es : List Dd}
def ERG (K : PySem.W.Frag) (t : TA) (σ : L2.St) (H : Hp) (ds : List Dd) : Prop := ∀ H1, Same H H1 → ∀ F : List V → Hp → Prop, (∀ vs H2, Same H1 H2 → EachG K H2 vs ds → F vs H2) → t σ H1 F
theorem erg_nil : ERG K tNil σ H [] := fun H1 s1 F q => q [] H1 same_rfl .nil
theorem erg_cons (a : ER te σ H (IsDd K d)) (b : ERG K t σ H ds) : ERG K (tCons te t) σ H (d :: ds) := fun H1 s1 F q => a H1 s1 _ fun v H2 s2 e => b H2 (s1.trans s2) _ fun vs H3 s3 hd =>
  q (v :: vs) H3 (s2.trans s3) (.cons (stb_g _ _ _ s3 e) hd)
theorem er_lstG (b : ERG K t σ H ds) (hz : ds.length ≤ 1000) : ER (tLst t) σ H (AtG K ds) := fun H1 s1 F q => b H1 s1 _ fun vs H2 s2 hd => ⟨by rw [sizeLine_eq, hd.len]; omega, fun p np => q _ _ (s2.trans (same_new np)) ⟨p, vs, rfl, upd_same, hd.same (same_new np)⟩⟩
theorem er_catG (ha : ER ta σ H (AtG K ds)) (hb : ER tb σ H (AtG K es)) (hz : ds.length + es.length ≤ 1000) : ER (tOp rCat ta tb) σ H (AtG K (ds ++ es)) :=
  ha.op stb_gs hb fun u v H1 F s ⟨r, vs, e1, h1, g1⟩ ⟨q, us, e2, h2, g2⟩ k => by
    obtain rfl := e1
    obtain rfl := e2
    exact ⟨r, q, vs, us, rfl, rfl, h1, h2, by rw [sizeLine_eq, g1.len, g2.len]; omega, fun n nn => k _ _ (same_new nn) ⟨n, _, rfl, upd_same, (g2.append g1).same (same_new nn)⟩⟩
/-- list == nothing is found -/
theorem t_ne0 {te : TE} (h : ER te σ H (AtL [])) : TestR (tTest (tOp (rNeD K) te (tLst tNil))) σ H false := fun H1 s1 F k => h H1 s1 _ fun v H2 s2 ⟨r, e, hr⟩ => by
  obtain rfl := e
  exact ⟨Nat.zero_le _, fun q nq => neL (xs := []) (ys := []) (SqL.of (same_new nq _ _ hr)) (SqL.of upd_same) (fun _ z => nomatch z) (fun _ z => nomatch z) ⟨_, rfl, k _ (s2.trans (same_new nq))⟩⟩
theorem er_eqI {a b : Int} (ha : ER ta σ H (IsV (.int a))) (hb : ER tb σ H (IsV (.int b))) : ER (tOp rEq ta tb) σ H (IsV (.bl (decide (a = b)))) := ha.op stb_v hb fun u v H1 F s e1 e2 k => by
  obtain rfl := e1
  obtain rfl := e2
  refine ⟨rfl, ?_⟩
  rw [intB]
  exact k _ H1 same_rfl rfl
theorem er_eqS {a b : Str} (ha : ER ta σ H (IsV (.str a))) (hb : ER tb σ H (IsV (.str b))) : ER (tOp rEq ta tb) σ H (IsV (.bl (decide (a = b)))) := ha.op stb_v hb fun u v H1 F s e1 e2 k => by
  obtain rfl := e1
  obtain rfl := e2
  refine ⟨rfl, ?_⟩
  rw [strB]
  exact k _ H1 same_rfl rfl
/-- two truths that are one -/
theorem t_neB {b : Bool} (ha : ER ta σ H (IsV (.bl b))) (hb : ER tb σ H (IsV (.bl b))) : TestR (tTest (tOp rNe ta tb)) σ H false := ER.test (ha.op stb_v hb fun u v H1 F s e1 e2 k => by
  obtain rfl := e1
  obtain rfl := e2
  refine ⟨rfl, ?_⟩
  rw [decide_eq_true rfl]
  exact k _ H1 same_rfl rfl)
theorem t_neL {xs ys : List Str} (ha : ER ta σ H (AtL (xs.map V.str))) (hb : ER tb σ H (AtL (ys.map V.str))) (hx : ∀ x ∈ xs, PyData.strOk x = true) (hy : ∀ x ∈ ys, PyData.strOk x = true) : TestR (tTest (tOp (rNeD K) ta tb)) σ H (!decide (xs = ys)) := ER.test (ha.op stb_l hb fun u v H1 F s ⟨r, e1, h1⟩ ⟨q, e2, h2⟩ k => by
  obtain rfl := e1
  obtain rfl := e2
  exact neL (SqL.of h1) (SqL.of h2) hx hy (k _ H1 same_rfl rfl))
end
end K8
set_option Elab.async false
set_option linter.all false
set_option maxRecDepth 100000
set_option maxHeartbeats 4000000
/-! _law_unlike_right. -/
namespace K8
open PySem PySem.Spec PyProof.Rows L2 RV EV He EF EI LamX
def spUr (K : PySem.W.Frag) : Sp := fun vs H Q _ => ∃ v, vs = [v] ∧ AtT (kindsL.map V.str) v H ∧ ∀ H', Same H H' → Q (.bl true) H'
abbrev tLA (K : PySem.W.Frag) : TA := (tCons (Sk.tSK (ga K "Rise") (spDRise K) E0 (tCons (tC (V.int 1)) (tCons (tC (V.int 3)) tNil))) (tCons (Sk.tSK (ga K "Night") (spDNight K) E0 (tCons (tC (V.int 1)) (tCons (tC (V.int 3)) tNil))) (tCons (Sk.tSK (ga K "Rise") (spDRise K) E0 (tCons (tC (V.int 1)) (tCons (tC (V.int 2)) (tCons (tC (V.int 3)) tNil)))) (tCons (Sk.tSKK (ga K "Rise") (spDRise K) E0 (tCons (tC (V.int 1)) (tCons (tC (V.int 2)) (tCons (tC (V.int 3)) tNil))) (tCons (tC (V.int 1)) tNil)) (tCons (Sk.tSKK (ga K "Rise") (spDRise K) E0 (tCons (tC (V.int 1)) (tCons (tC (V.int 2)) (tCons (tC (V.int 3)) tNil))) (tCons (tC (V.int 2)) tNil)) (tCons (Sk.tSK (ga K "Renew") (spDRenew K) E0 (tCons (tC (V.int 1)) (tCons (tC (V.int 3)) tNil))) (tCons (Sk.tSKK (ga K "Renew") (spDRenew K) E0 (tCons (tC (V.int 1)) (tCons (tC (V.int 3)) tNil)) (tCons (tC (V.int 1)) tNil)) tNil)))))))
abbrev tLB (K : PySem.W.Frag) : TA := (tCons (tMake (ga K "Redo") (spDRedo K) [] E0 (tCons (tC (V.int 2)) tNil)) (tCons (tMake (ga K "Shut") (spDShut K) [] E0 (tCons (tC (V.int 2)) tNil)) (tCons (Sk.tSK (ga K "Renew") (spDRenew K) E0 (tCons (tC (V.int 2)) tNil)) (tCons (tMake (ga K "Fix") (spDFix K) [] E0 (tCons (tC (V.str "f")) tNil)) (tCons (tMake (ga K "Unfix") (spDUnfix K) [] E0 (tCons (tC (V.str "f")) tNil)) (tCons (tMake (ga K "Carry") (spDCarry K) [] E0 (tCons (tC (V.str "f")) (tCons (tC (V.int 1)) tNil))) (tCons (tMake (ga K "Drop") (spDDrop K) [] E0 (tCons (tC (V.str "f")) (tCons (tC (V.int 1)) tNil))) (tCons (tMake (ga K "End") (spDEnd K) [] E0 (tCons (tC (V.int 1)) tNil)) (tCons (tMake (ga K "Offer") (spDOffer K) [] E0 (tCons (tC (V.int 1)) tNil)) (tCons (tMake (ga K "Live") (spDLive K) [] E0 (tCons (tC (V.int 1)) tNil)) tNil))))))))))
abbrev tLC (K : PySem.W.Frag) : TA := (tCons (tMake (ga K "Down") (spDDown K) [] E0 (tCons (tC (V.int 1)) tNil)) (tCons (tMake (ga K "Day") (spDDay K) [] E0 (tCons (tC (V.int 1)) tNil)) (tCons (tMake (ga K "Merge") (spDMerge K) [.non] E0 (tCons (tC (V.int 1)) tNil)) (tCons (tMake (ga K "Merge") (spDMerge K) [] E0 (tCons (tC (V.int 1)) (tCons (tC (V.str "f")) tNil))) (tCons (tMake (ga K "Try") (spDTry K) [] E0 (tCons (tC (V.int 1)) (tCons (tC (V.int 2)) tNil))) (tCons (tMake (ga K "Probe") (spDProbe K) [] E0 (tCons (tC (V.int 1)) (tCons (tC (V.int 2)) tNil))) (tCons (tMake (ga K "Meet") (spDMeet K) [] E0 (tCons (tC (V.int 1)) (tCons (tC (V.int 2)) tNil))) (tCons (Oo.tNew00 (ga K "Cut")) (tCons (tMake (ga K "Probe") (spDProbe K) [] E0 (tCons (tC (V.int 2)) (tCons (tC (V.int 1)) tNil))) tNil)))))))))
abbrev tLD (K : PySem.W.Frag) : TA := (tCons (tMakeN (ga K "End") 0 1 (spDEnd K) gV2 E0 tNil (tCons (tC (V.int 2)) tNil)) (tCons (tMakeN (ga K "Live") 0 1 (spDLive K) gV2 E0 tNil (tCons (tC (V.int 2)) tNil)) (tCons (tMakeN (ga K "Down") 0 1 (spDDown K) gV2 E0 tNil (tCons (tC (V.int 2)) tNil)) (tCons (tMakeN (ga K "Unfix") 0 1 (spDUnfix K) gV2 E0 tNil (tCons (tC (V.str "f")) tNil)) (tCons (tMakeN (ga K "Fix") 0 1 (spDFix K) gV2 E0 tNil (tCons (tC (V.str "f")) tNil)) (tCons (tMakeN (ga K "Shut") 0 1 (spDShut K) gV2 E0 tNil (tCons (tC (V.int 2)) tNil)) (tCons (tMakeN (ga K "Try") 0 2 (spDTry K) gVx E0 tNil (tCons (tC (V.int 3)) (tCons (tC (V.int 2)) tNil))) (tCons (tMakeN (ga K "Meet") 0 2 (spDMeet K) gVx E0 tNil (tCons (tC (V.int 3)) (tCons (tC (V.int 2)) tNil))) tNil))))))))
abbrev tLD2 (K : PySem.W.Frag) : TA := (tCons (tMakeN (ga K "Drop") 0 2 (spDDrop K) gVx E0 tNil (tCons (tC (V.int 2)) (tCons (tC (V.str "f")) tNil))) (tCons (tMakeN (ga K "Merge") 0 1 (spDMerge K) gVm E0 tNil (tCons (tC (V.int 2)) tNil)) (tCons (tMakeN (ga K "Offer") 0 1 (spDOffer K) gV2 E0 tNil (tCons (tC (V.int 2)) tNil)) (tCons (tMakeN (ga K "Redo") 0 1 (spDRedo K) gV2 E0 tNil (tCons (tC (V.int 2)) tNil)) tNil))))
section
variable {P : Program} {w : World} {K : PySem.W.Frag} {mg : Str → Option Value} {base : Heap}
abbrev scUr_N : List Str := ["_law_words", "_law_unlike", "_law_named_here", "_law_due", "_law_at", "_law_one", "_law_spot", "_law_other"]
theorem scUr : FnScope scUr_N ["_law_words"] (defScope (top 84)) := ⟨rfl, rfl, rfl, by decide +kernel, rfl, by decide +kernel, by decide +kernel⟩
/-- Fix.KIND and its like -/
theorem con_of (T : KF P w K mg base) {q : Str × Str} (hq : q ∈ conN) : ∃ t, ClX.CRead K (ga K q.1) (.type "type") ∧ ClX.CVal K (ga K q.1) (.type "type") "KIND" (.str q.2) (.str q.2 t) := by
  obtain ⟨_, z⟩ := ba T.nb8
  obtain ⟨_, z⟩ := ba z
  obtain ⟨_, z⟩ := ba z
  obtain ⟨_, z⟩ := ba z
  obtain ⟨_, z⟩ := ba z
  obtain ⟨zc, _⟩ := ba z
  have h := List.all_eq_true.mp zc q hq
  unfold conB at h
  obtain ⟨h1, h2⟩ := ba h
  obtain ⟨h2, h3⟩ := ba h2
  split at h1
  · rename_i y t e
    have := of_decide_eq_true h1
    subst this
    exact ⟨t, ⟨h2, eqO_ok h3⟩, ⟨e, ⟨t, rfl⟩⟩⟩
  · cases h1
theorem er_con (T : KF P w K mg base) {q : Str × Str} (hq : q ∈ conN) {σ : L2.St} {H : Hp} : ER (ClX.tCVal K (tC (.ref (ga K q.1))) "KIND") σ H (IsV (.str q.2)) := fun H1 s1 F k => by
  obtain ⟨t, cr, cv⟩ := con_of T hq
  exact ⟨ga K q.1, .type "type", .str q.2, _, rfl, cr, cv, k _ H1 same_rfl rfl⟩
theorem er_A {σ : L2.St} {H : Hp} : ER (tLst (tLA K)) σ H (AtG K ulA) :=
  er_lstG (erg_cons (er_sk rfl rfl (era_cons er_c (era_cons er_c era_nil)) (good_of (ulA_ok (.rise, [V.int 1, V.int 3], .non) (by simp [ulA]))).2 (ulA_ok (.rise, [V.int 1, V.int 3], .non) (by simp [ulA])))
      (erg_cons (er_sk rfl rfl (era_cons er_c (era_cons er_c era_nil)) (good_of (ulA_ok (.night, [V.int 1, V.int 3], .non) (by simp [ulA]))).2 (ulA_ok (.night, [V.int 1, V.int 3], .non) (by simp [ulA])))
      (erg_cons (er_sk rfl rfl (era_cons er_c (era_cons er_c (era_cons er_c era_nil))) (good_of (ulA_ok (.rise, [V.int 1, V.int 2, V.int 3], .non) (by simp [ulA]))).2 (ulA_ok (.rise, [V.int 1, V.int 2, V.int 3], .non) (by simp [ulA])))
      (erg_cons (er_skK rfl rfl (era_cons er_c (era_cons er_c (era_cons er_c era_nil))) (era_cons er_c era_nil) (good_of (ulA_ok (.rise, [V.int 1, V.int 2, V.int 3], .int 1) (by simp [ulA]))).2 (ulA_ok (.rise, [V.int 1, V.int 2, V.int 3], .int 1) (by simp [ulA])))
      (erg_cons (er_skK rfl rfl (era_cons er_c (era_cons er_c (era_cons er_c era_nil))) (era_cons er_c era_nil) (good_of (ulA_ok (.rise, [V.int 1, V.int 2, V.int 3], .int 2) (by simp [ulA]))).2 (ulA_ok (.rise, [V.int 1, V.int 2, V.int 3], .int 2) (by simp [ulA])))
      (erg_cons (er_sk rfl rfl (era_cons er_c (era_cons er_c era_nil)) (good_of (ulA_ok (.renew, [V.int 1, V.int 3], .non) (by simp [ulA]))).2 (ulA_ok (.renew, [V.int 1, V.int 3], .non) (by simp [ulA])))
      (erg_cons (er_skK rfl rfl (era_cons er_c (era_cons er_c era_nil)) (era_cons er_c era_nil) (good_of (ulA_ok (.renew, [V.int 1, V.int 3], .int 1) (by simp [ulA]))).2 (ulA_ok (.renew, [V.int 1, V.int 3], .int 1) (by simp [ulA])))
      erg_nil))))))) (by decide)
theorem er_B {σ : L2.St} {H : Hp} : ER (tLst (tLB K)) σ H (AtG K ulB) :=
  er_lstG (erg_cons (e_Redo rfl (ulB_ok (.redo, [V.int 2], .non) (by simp [ulB])) (era_cons er_c era_nil))
      (erg_cons (e_Shut rfl (ulB_ok (.shut, [V.int 2], .non) (by simp [ulB])) (era_cons er_c era_nil))
      (erg_cons (er_sk rfl rfl (era_cons er_c era_nil) (good_of (ulB_ok (.renew, [V.int 2], .non) (by simp [ulB]))).2 (ulB_ok (.renew, [V.int 2], .non) (by simp [ulB])))
      (erg_cons (e_Fix rfl (ulB_ok (.fix, [V.str "f"], .non) (by simp [ulB])) (era_cons er_c era_nil))
      (erg_cons (e_Unfix rfl (ulB_ok (.unfix, [V.str "f"], .non) (by simp [ulB])) (era_cons er_c era_nil))
      (erg_cons (e_Carry rfl (ulB_ok (.carry, [V.str "f", V.int 1], .non) (by simp [ulB])) (era_cons er_c (era_cons er_c era_nil)))
      (erg_cons (e_Drop rfl (ulB_ok (.drop, [V.str "f", V.int 1], .non) (by simp [ulB])) (era_cons er_c (era_cons er_c era_nil)))
      (erg_cons (e_End rfl (ulB_ok (.end_, [V.int 1], .non) (by simp [ulB])) (era_cons er_c era_nil))
      (erg_cons (e_Offer rfl (ulB_ok (.offer, [V.int 1], .non) (by simp [ulB])) (era_cons er_c era_nil))
      (erg_cons (e_Live rfl (ulB_ok (.live, [V.int 1], .non) (by simp [ulB])) (era_cons er_c era_nil))
      erg_nil)))))))))) (by decide)
theorem er_C {σ : L2.St} {H : Hp} : ER (tLst (tLC K)) σ H (AtG K ulC) :=
  er_lstG (erg_cons (e_Down rfl (ulC_ok (.down, [V.int 1], .non) (by simp [ulC])) (era_cons er_c era_nil))
      (erg_cons (e_Day rfl (ulC_ok (.day, [V.int 1], .non) (by simp [ulC])) (era_cons er_c era_nil))
      (erg_cons (e_Merge rfl (ulC_ok (.merge, [V.int 1], .non) (by simp [ulC])) (era_cons er_c era_nil))
      (erg_cons (e_Merge2 rfl (ulC_ok (.merge, [V.int 1], .str "f") (by simp [ulC])) (era_cons er_c (era_cons er_c era_nil)))
      (erg_cons (e_Try rfl (ulC_ok (.try_, [V.int 1, V.int 2], .non) (by simp [ulC])) (era_cons er_c (era_cons er_c era_nil)))
      (erg_cons (e_Probe rfl (ulC_ok (.probe, [V.int 1, V.int 2], .non) (by simp [ulC])) (era_cons er_c (era_cons er_c era_nil)))
      (erg_cons (e_Meet rfl (ulC_ok (.meet_, [V.int 1, V.int 2], .non) (by simp [ulC])) (era_cons er_c (era_cons er_c era_nil)))
      (erg_cons (e_Cut rfl (ulC_ok (.cut, [], .non) (by simp [ulC])))
      (erg_cons (e_Probe rfl (ulC_ok (.probe, [V.int 2, V.int 1], .non) (by simp [ulC])) (era_cons er_c (era_cons er_c era_nil)))
      erg_nil))))))))) (by decide)
theorem er_D {σ : L2.St} {H : Hp} : ER (tLst (tLD K)) σ H (AtG K nmA) :=
  er_lstG (erg_cons (k_End rfl (nmA_ok (.end_, [V.int 2], .non) (by simp [nmA])) (era_cons er_c era_nil))
      (erg_cons (k_Live rfl (nmA_ok (.live, [V.int 2], .non) (by simp [nmA])) (era_cons er_c era_nil))
      (erg_cons (k_Down rfl (nmA_ok (.down, [V.int 2], .non) (by simp [nmA])) (era_cons er_c era_nil))
      (erg_cons (k_Unfix rfl (nmA_ok (.unfix, [V.str "f"], .non) (by simp [nmA])) (era_cons er_c era_nil))
      (erg_cons (k_Fix rfl (nmA_ok (.fix, [V.str "f"], .non) (by simp [nmA])) (era_cons er_c era_nil))
      (erg_cons (k_Shut rfl (nmA_ok (.shut, [V.int 2], .non) (by simp [nmA])) (era_cons er_c era_nil))
      (erg_cons (k_Try rfl (nmA_ok (.try_, [V.int 2, V.int 3], .non) (by simp [nmA])) (era_cons er_c (era_cons er_c era_nil)))
      (erg_cons (k_Meet rfl (nmA_ok (.meet_, [V.int 2, V.int 3], .non) (by simp [nmA])) (era_cons er_c (era_cons er_c era_nil)))
      erg_nil)))))))) (by decide)
theorem er_D2 {σ : L2.St} {H : Hp} : ER (tLst (tLD2 K)) σ H (AtG K nmB) :=
  er_lstG (erg_cons (k_Drop rfl (nmB_ok (.drop, [V.str "f", V.int 2], .non) (by simp [nmB])) (era_cons er_c (era_cons er_c era_nil)))
      (erg_cons (k_Merge rfl (nmB_ok (.merge, [V.int 2], .non) (by simp [nmB])) (era_cons er_c era_nil))
      (erg_cons (k_Offer rfl (nmB_ok (.offer, [V.int 2], .non) (by simp [nmB])) (era_cons er_c era_nil))
      (erg_cons (k_Redo rfl (nmB_ok (.redo, [V.int 2], .non) (by simp [nmB])) (era_cons er_c era_nil))
      erg_nil)))) (by decide)
abbrev ttU (K : PySem.W.Frag) : TT := tTest (tOp rNe (tOp (rEqG K) (tVar 5) (tVar 7)) (tOp rEq (tVar 6) (tVar 4)))
/-- the deeds that are not one another: none is found -/
theorem unl_none (T : KF P w K mg base) {H : Hp} {U : Addr} {vs : List V} {ds : List Dd} {v0 one : V} {a : Nat} {d1 : Dd} (hU : H U = some (.lst vs)) (g : EachG K H vs ds) (ok : ∀ d ∈ ds, DOk d.1 d.2.1 d.2.2) (nod : (ds.map dT).Nodup) (hl : ds.length ≤ 100) (ha : ds[a]? = some d1) (h1 : IsDd K d1 one H) :
    ER (tLc (iEnum K (tCons (tVar 1) tNil)) (gTup K 2 (gCons (gName 6) (gCons (gName 7) gNil))) (ttU K) (tVar 6) [6, 7]) [some v0, some (.ref U), none, none, some (.int (a : Nat)), some one, none, none] H (AtL []) := fun H1 s1 F k => by
  refine ⟨_, rfl, U, vs, rfl, SqL.of (s1 _ _ hU), fun D nD => ?_⟩
  refine lc_it (σ := [some v0, some (.ref U), none, none, some (.int (a : Nat)), some one, none, none]) (vs := [6, 7]) (walk_enum (K := K) (a := U) (xs := vs)) (fun n H' => Same H1 H' ∧ H' D = some (.lst [])) ⟨same_new nD, upd_same⟩ (fun n H' _ q => SqL.of (q.1 _ _ (s1 _ _ hU))) ?_ fun H' ⟨s, hD⟩ => k _ H' s ⟨D, rfl, hD⟩
  rintro n x H4 H5 hn ⟨s4, hD⟩ ⟨t, x0, y0, rfl, nt, rfl, e1, e2⟩
  cases e1
  have e2 : vs[n]? = some y0 := e2
  have hd : ∃ d2, ds[n]? = some d2 := ⟨ds[n]'(by rw [← g.len]; exact hn), List.getElem?_eq_getElem (by rw [← g.len]; exact hn)⟩
  obtain ⟨d2, hd2⟩ := hd
  have s5 := same_new (o := .tup [V.int (n : Nat), y0]) nt
  have s45 := (s1.trans s4).trans s5
  refine ⟨t, _, rfl, SqT.of upd_same, rfl, _, _, rfl, _, _, rfl, rfl, rfl, ?_⟩
  have eqs : decide (dT d1 = dT d2) = decide ((n : Int) = (a : Nat)) := by
    refine decide_eq_decide.mpr ⟨fun e => ?_, fun e => ?_⟩
    · have h2 : (ds.map dT)[a]? = some (dT d1) := by rw [List.getElem?_map, ha]; rfl
      have h3 : (ds.map dT)[n]? = some (dT d1) := by rw [List.getElem?_map, hd2, e]; rfl
      obtain ⟨l1, _⟩ := List.getElem?_eq_some_iff.mp h2
      have := (List.getElem?_inj l1 nod).mp (h2.trans h3.symm)
      omega
    · have : n = a := by omega
      subst this
      rw [ha] at hd2
      cases hd2
      rfl
  have A := er_eqG (σ := [some v0, some (.ref U), none, none, some (.int (a : Nat)), some one, some (.int (n : Nat)), some y0]) (H := upd H4 t (.tup [V.int (n : Nat), y0])) T (er_var (i := 5) rfl stb_g (stb_g _ _ _ s45 h1)) (er_var (i := 7) rfl stb_g (stb_g _ _ _ s45 (g.at_ n y0 d2 e2 hd2)))
  have B := er_eqI (σ := [some v0, some (.ref U), none, none, some (.int (a : Nat)), some one, some (.int (n : Nat)), some y0]) (H := upd H4 t (.tup [V.int (n : Nat), y0])) (ta := tVar 6) (tb := tVar 4) (er_v (i := 6) rfl) (er_v (i := 4) rfl)
  rw [← eqs] at B
  exact t_neB A B _ same_rfl _ fun H6 s6 => ⟨(s4.trans s5).trans s6, s6 _ _ (s5 _ _ hD)⟩
theorem er_strs2 {σ : L2.St} {H : Hp} {ta : TE} {ds : List Dd} {i : Nat} (h : ER ta σ H (AtG K ds)) (hl : ds.length ≤ 1000) (hw : ∀ v, wipe ((wipe σ [i]).set i (some v)) [i] = wipe σ [i]) (hi : ∀ v, ((wipe σ [i]).set i (some v))[i]? = some (some v)) :
    ER (tLc (iList K ta) (gName i) tYes (tCB (rStrK K) (tCons (tVar i) tNil)) [i]) σ H (AtL ((ds.map dT).map V.str)) := fun H1 s1 F k => h H1 s1 _ fun v H2 s2 ⟨L, vs, e, hL, g⟩ => by
  obtain rfl := e
  refine ⟨L, rfl, ⟨_, SqL.of hL⟩, fun D nD => ?_⟩
  refine lc_it (walk_list (K := K) (a := L) (xs := vs)) (fun n H' => Same H2 H' ∧ H' D = some (.lst (((ds.take n).map dT).map V.str))) ⟨same_new nD, upd_same⟩ (fun n H' _ q => SqL.of (q.1 _ _ hL)) ?_ fun H' ⟨s, hD⟩ => k _ H' (s2.trans s) ⟨D, rfl, by rw [hD, g.len, List.take_of_length_le (Nat.le_refl _)]⟩
  rintro n x H4 H5 hn ⟨s4, hD⟩ ⟨rfl, hx⟩
  have hn2 : n < ds.length := by rw [← g.len]; exact hn
  have gd := stb_g _ _ _ s4 (g.at_ n x _ hx (List.getElem?_eq_getElem hn2))
  refine ⟨hw _, yes_go ?_⟩
  refine (er_strK (K := K) (er_var (hi x) stb_g gd)).go fun u H6 s6 e => ?_
  obtain rfl := e
  refine ⟨_, s6 _ _ hD, by rw [List.length_map, List.length_map, List.length_take, sizeLine_eq]; omega, fun c o e => ?_, ?_⟩
  · have : c ≠ D := ne_of_none e nD
    rw [upd_ne this]
    exact s6 _ _ (s4 _ _ e)
  · rw [upd_same, List.take_succ_eq_append_getElem hn2, List.map_append, List.map_append]
    rfl
theorem c_unl (T : KF P w K mg base) : Callee P w K mg base CX0 8 "_law_unlike_right" ["_law_words"] (spUr K) := by
  obtain ⟨fd, F, gg⟩ := T.tops ("_law_unlike_right", 84) (by decide)
  obtain ⟨fpRedo, GpRedo, bpRedo, mpRedo, gpRedo⟩ := m_Redo (w := w) T
  obtain ⟨fpShut, GpShut, bpShut, mpShut, gpShut⟩ := m_Shut (w := w) T
  obtain ⟨fpFix, GpFix, bpFix, mpFix, gpFix⟩ := m_Fix (w := w) T
  obtain ⟨fpUnfix, GpUnfix, bpUnfix, mpUnfix, gpUnfix⟩ := m_Unfix (w := w) T
  obtain ⟨fpCarry, GpCarry, bpCarry, mpCarry, gpCarry⟩ := m_Carry (w := w) T
  obtain ⟨fpDrop, GpDrop, bpDrop, mpDrop, gpDrop⟩ := m_Drop (w := w) T
  obtain ⟨fpEnd, GpEnd, bpEnd, mpEnd, gpEnd⟩ := m_End (w := w) T
  obtain ⟨fpOffer, GpOffer, bpOffer, mpOffer, gpOffer⟩ := m_Offer (w := w) T
  obtain ⟨fpLive, GpLive, bpLive, mpLive, gpLive⟩ := m_Live (w := w) T
  obtain ⟨fpDown, GpDown, bpDown, mpDown, gpDown⟩ := m_Down (w := w) T
  obtain ⟨fpDay, GpDay, bpDay, mpDay, gpDay⟩ := m_Day (w := w) T
  obtain ⟨fpTry, GpTry, bpTry, mpTry, gpTry⟩ := m_Try (w := w) T
  obtain ⟨fpProbe, GpProbe, bpProbe, mpProbe, gpProbe⟩ := m_Probe (w := w) T
  obtain ⟨fpMeet, GpMeet, bpMeet, mpMeet, gpMeet⟩ := m_Meet (w := w) T
  obtain ⟨fkEnd, GkEnd, bkEnd, mkEnd, gkEnd⟩ := x_End (w := w) T
  obtain ⟨fkLive, GkLive, bkLive, mkLive, gkLive⟩ := x_Live (w := w) T
  obtain ⟨fkDown, GkDown, bkDown, mkDown, gkDown⟩ := x_Down (w := w) T
  obtain ⟨fkUnfix, GkUnfix, bkUnfix, mkUnfix, gkUnfix⟩ := x_Unfix (w := w) T
  obtain ⟨fkFix, GkFix, bkFix, mkFix, gkFix⟩ := x_Fix (w := w) T
  obtain ⟨fkShut, GkShut, bkShut, mkShut, gkShut⟩ := x_Shut (w := w) T
  obtain ⟨fkTry, GkTry, bkTry, mkTry, gkTry⟩ := x_Try (w := w) T
  obtain ⟨fkMeet, GkMeet, bkMeet, mkMeet, gkMeet⟩ := x_Meet (w := w) T
  obtain ⟨fkDrop, GkDrop, bkDrop, mkDrop, gkDrop⟩ := x_Drop (w := w) T
  obtain ⟨fkOffer, GkOffer, bkOffer, mkOffer, gkOffer⟩ := x_Offer (w := w) T
  obtain ⟨fkRedo, GkRedo, bkRedo, mkRedo, gkRedo⟩ := x_Redo (w := w) T
  obtain ⟨fM, itsM, GM, ⟨rM, bM⟩, bM2, ⟨ggM, bMk⟩, _, mM, gM⟩ := x_Merge (w := w) T
  obtain ⟨GRise, mRise, gRise⟩ := m_Rise (w := w) T
  obtain ⟨GNight, mNight, gNight⟩ := m_Night (w := w) T
  obtain ⟨GRenew, mRenew, gRenew⟩ := m_Renew (w := w) T
  have gCut := T.gc
  have mCut := mk_cut T
  refine ⟨fd, F.ok scUr (fun vs H Q E h => ?_) (fun cdv A outer s H vs Q E hr h => ?_), FunD.bindsN F fun _ _ _ _ _ _ us hl => match us, hl with | [_], _ => rfl, F.kp, gg⟩
  · obtain ⟨v, rfl, _⟩ := h
    rfl
  · obtain ⟨v, rfl, hv, q⟩ := h
    have nd := scUr.nd
    refine ⟨_, PSs.nox ((pss_cons (ps_set (i := 1) nd rfl (.inl rfl) (pe_lst (pa_cons (Sk.pe_sk (E := E0) mRise GRise (hr.mono (by decide)) (by rfl) gRise passL (pa_cons pe_int (pa_cons pe_int pa_nil)))
        (pa_cons (Sk.pe_sk (E := E0) mNight GNight (hr.mono (by decide)) (by rfl) gNight passL (pa_cons pe_int (pa_cons pe_int pa_nil)))
        (pa_cons (Sk.pe_sk (E := E0) mRise GRise (hr.mono (by decide)) (by rfl) gRise passL (pa_cons pe_int (pa_cons pe_int (pa_cons pe_int pa_nil))))
        (pa_cons (Sk.pe_skK (E := E0) mRise GRise (hr.mono (by decide)) (by rfl) gRise passL (pa_cons pe_int (pa_cons pe_int (pa_cons pe_int pa_nil))) (pk_cons pe_int pk_nil))
        (pa_cons (Sk.pe_skK (E := E0) mRise GRise (hr.mono (by decide)) (by rfl) gRise passL (pa_cons pe_int (pa_cons pe_int (pa_cons pe_int pa_nil))) (pk_cons pe_int pk_nil))
        (pa_cons (Sk.pe_sk (E := E0) mRenew GRenew (hr.mono (by decide)) (by rfl) gRenew passL (pa_cons pe_int (pa_cons pe_int pa_nil)))
        (pa_cons (Sk.pe_skK (E := E0) mRenew GRenew (hr.mono (by decide)) (by rfl) gRenew passL (pa_cons pe_int (pa_cons pe_int pa_nil)) (pk_cons pe_int pk_nil))
        pa_nil)))))))))
      (pss_cons (ps_set (i := 1) nd rfl (.inl rfl) (pe_op op_cat (pv 1) (pe_lst (pa_cons (pe_make (E := E0) mpRedo GpRedo (hr.mono (by decide)) (by rfl) gpRedo bpRedo .nil passL (pa_cons pe_int pa_nil))
        (pa_cons (pe_make (E := E0) mpShut GpShut (hr.mono (by decide)) (by rfl) gpShut bpShut .nil passL (pa_cons pe_int pa_nil))
        (pa_cons (Sk.pe_sk (E := E0) mRenew GRenew (hr.mono (by decide)) (by rfl) gRenew passL (pa_cons pe_int pa_nil))
        (pa_cons (pe_make (E := E0) mpFix GpFix (hr.mono (by decide)) (by rfl) gpFix bpFix .nil passL (pa_cons pe_str pa_nil))
        (pa_cons (pe_make (E := E0) mpUnfix GpUnfix (hr.mono (by decide)) (by rfl) gpUnfix bpUnfix .nil passL (pa_cons pe_str pa_nil))
        (pa_cons (pe_make (E := E0) mpCarry GpCarry (hr.mono (by decide)) (by rfl) gpCarry bpCarry .nil passL (pa_cons pe_str (pa_cons pe_int pa_nil)))
        (pa_cons (pe_make (E := E0) mpDrop GpDrop (hr.mono (by decide)) (by rfl) gpDrop bpDrop .nil passL (pa_cons pe_str (pa_cons pe_int pa_nil)))
        (pa_cons (pe_make (E := E0) mpEnd GpEnd (hr.mono (by decide)) (by rfl) gpEnd bpEnd .nil passL (pa_cons pe_int pa_nil))
        (pa_cons (pe_make (E := E0) mpOffer GpOffer (hr.mono (by decide)) (by rfl) gpOffer bpOffer .nil passL (pa_cons pe_int pa_nil))
        (pa_cons (pe_make (E := E0) mpLive GpLive (hr.mono (by decide)) (by rfl) gpLive bpLive .nil passL (pa_cons pe_int pa_nil))
        pa_nil)))))))))))))
      (pss_cons (ps_set (i := 1) nd rfl (.inl rfl) (pe_op op_cat (pv 1) (pe_lst (pa_cons (pe_make (E := E0) mpDown GpDown (hr.mono (by decide)) (by rfl) gpDown bpDown .nil passL (pa_cons pe_int pa_nil))
        (pa_cons (pe_make (E := E0) mpDay GpDay (hr.mono (by decide)) (by rfl) gpDay bpDay .nil passL (pa_cons pe_int pa_nil))
        (pa_cons (pe_make (E := E0) (dvs := [.non]) mM GM (hr.mono (by decide)) (by rfl) gM bM rM passL (pa_cons pe_int pa_nil))
        (pa_cons (pe_make (E := E0) mM GM (hr.mono (by decide)) (by rfl) gM bM2 .nil passL (pa_cons pe_int (pa_cons pe_str pa_nil)))
        (pa_cons (pe_make (E := E0) mpTry GpTry (hr.mono (by decide)) (by rfl) gpTry bpTry .nil passL (pa_cons pe_int (pa_cons pe_int pa_nil)))
        (pa_cons (pe_make (E := E0) mpProbe GpProbe (hr.mono (by decide)) (by rfl) gpProbe bpProbe .nil passL (pa_cons pe_int (pa_cons pe_int pa_nil)))
        (pa_cons (pe_make (E := E0) mpMeet GpMeet (hr.mono (by decide)) (by rfl) gpMeet bpMeet .nil passL (pa_cons pe_int (pa_cons pe_int pa_nil)))
        (pa_cons (Oo.pe_new00 mCut (by rfl) gCut)
        (pa_cons (pe_make (E := E0) mpProbe GpProbe (hr.mono (by decide)) (by rfl) gpProbe bpProbe .nil passL (pa_cons pe_int (pa_cons pe_int pa_nil)))
        pa_nil))))))))))))
      (pss_cons (ps_for PassesOwn.never rfl (pi_enum (by rfl) (T.fr "enumerate" (by decide)) (pa_cons (pv 1) pa_nil)) (pg_tup (by rfl) (pgs_cons (pg_name (i := 4) nd rfl (.inr rfl)) (pgs_cons (pg_name (i := 5) nd rfl (.inr rfl)) pgs_nil)))
        (pss_one (ps_if (pt_cmpR (op_neD hr.units) (pe_lc (own := [("_law_spot", 6), ("_law_other", 7)]) (g := gTup K 2 (gCons (gName 6) (gCons (gName 7) gNil))) (tt := ttU K) (te := tVar 6) rfl nd (pi_enum (by rfl) (T.fr "enumerate" (by decide)) (pa_cons (pv 1) pa_nil)) (blkOk_by (N := scUr_N) (sc := defScope (top 84)) (by decide +kernel))
          (fun _ _ _ _ _ => pg_tup (by rfl) (pgs_cons (pg_name (i := 6) nd rfl (.inl rfl)) (pgs_cons (pg_name (i := 7) nd rfl (.inl rfl)) pgs_nil))) (fun _ _ _ _ _ => pts_one (pt_cmpR op_ne (pe_cmpR (op_eqG T (hr.mono (by decide))) (pv 5) (pv 7) (nomark _)) (pe_cmpR op_eq (pv 6) (pv 4) (nomark _)) (nomark _))) (fun _ _ _ _ _ => pv 6)) (pe_lst pa_nil) (nomark _)) (pss_one (ps_ret pe_bl)) pss_nil)))
      (pss_cons (ps_set (i := 2) nd rfl (.inl rfl) (pe_lst (pa_cons (Kw.pe_makeKw (E := E0) (ks := ["line"]) mkEnd GkEnd (hr.mono (by decide)) (by rfl) gkEnd bkEnd passL (pk_cons pe_int pk_nil))
        (pa_cons (Kw.pe_makeKw (E := E0) (ks := ["line"]) mkLive GkLive (hr.mono (by decide)) (by rfl) gkLive bkLive passL (pk_cons pe_int pk_nil))
        (pa_cons (Kw.pe_makeKw (E := E0) (ks := ["line"]) mkDown GkDown (hr.mono (by decide)) (by rfl) gkDown bkDown passL (pk_cons pe_int pk_nil))
        (pa_cons (Kw.pe_makeKw (E := E0) (ks := ["fix"]) mkUnfix GkUnfix (hr.mono (by decide)) (by rfl) gkUnfix bkUnfix passL (pk_cons pe_str pk_nil))
        (pa_cons (Kw.pe_makeKw (E := E0) (ks := ["fix"]) mkFix GkFix (hr.mono (by decide)) (by rfl) gkFix bkFix passL (pk_cons pe_str pk_nil))
        (pa_cons (Kw.pe_makeKw (E := E0) (ks := ["day"]) mkShut GkShut (hr.mono (by decide)) (by rfl) gkShut bkShut passL (pk_cons pe_int pk_nil))
        (pa_cons (Kw.pe_makeKw (E := E0) (ks := ["mate", "line"]) mkTry GkTry (hr.mono (by decide)) (by rfl) gkTry bkTry passL (pk_cons pe_int (pk_cons pe_int pk_nil)))
        (pa_cons (Kw.pe_makeKw (E := E0) (ks := ["mate", "line"]) mkMeet GkMeet (hr.mono (by decide)) (by rfl) gkMeet bkMeet passL (pk_cons pe_int (pk_cons pe_int pk_nil)))
        pa_nil))))))))))
      (pss_cons (ps_set (i := 2) nd rfl (.inl rfl) (pe_op op_cat (pv 2) (pe_lst (pa_cons (Kw.pe_makeKw (E := E0) (ks := ["line", "fix"]) mkDrop GkDrop (hr.mono (by decide)) (by rfl) gkDrop bkDrop passL (pk_cons pe_int (pk_cons pe_str pk_nil)))
        (pa_cons (Kw.pe_makeKw (E := E0) (ks := ["line"]) mM GM (hr.mono (by decide)) (by rfl) gM bMk passL (pk_cons pe_int pk_nil))
        (pa_cons (Kw.pe_makeKw (E := E0) (ks := ["line"]) mkOffer GkOffer (hr.mono (by decide)) (by rfl) gkOffer bkOffer passL (pk_cons pe_int pk_nil))
        (pa_cons (Kw.pe_makeKw (E := E0) (ks := ["day"]) mkRedo GkRedo (hr.mono (by decide)) (by rfl) gkRedo bkRedo passL (pk_cons pe_int pk_nil))
        pa_nil)))))))
      (pss_cons (ps_set (i := 3) nd rfl (.inl rfl) (pe_lst (pa_cons pe_str (pa_cons pe_str (pa_cons pe_str (pa_cons pe_str (pa_cons pe_str (pa_cons pe_str (pa_cons pe_str (pa_cons pe_str (pa_cons pe_str (pa_cons pe_str (pa_cons pe_str (pa_cons pe_str pa_nil))))))))))))))
      (pss_cons (ps_if (PW.pt (pw_or (pt_cmpR (op_neD hr.units) (pe_lc (own := [("_law_one", 5)]) (g := gName 5) (tt := tYes) (te := tCB (rStrK K) (tCons (tVar 5) tNil)) rfl nd (pi_list (pv 2)) (blkOk_by (N := scUr_N) (sc := defScope (top 84)) (by decide +kernel))
          (fun _ _ _ _ _ => pg_name (i := 5) nd rfl (.inl rfl)) (fun _ _ _ _ _ => pts_nil) (fun _ _ _ _ _ => pe_callTy (call_strK T (hr.mono (by decide))) (by rfl) (T.fr "str" (by decide)) boot_T (pa_cons (pv 5) pa_nil))) (pv 3) (nomark _)) (pw_or1 (pt_cmpR (op_neD hr.units) (pe_lst (pa_cons (ClX.pe_cval (pe_glob (v := .ref (ga K "Fix")) (by rfl) gpFix rfl)) (pa_cons (ClX.pe_cval (pe_glob (v := .ref (ga K "Unfix")) (by rfl) gpUnfix rfl)) (pa_cons (ClX.pe_cval (pe_glob (v := .ref (ga K "Cut")) (by rfl) gCut rfl)) (pa_cons (ClX.pe_cval (pe_glob (v := .ref (ga K "Rise")) (by rfl) gRise rfl)) (pa_cons (ClX.pe_cval (pe_glob (v := .ref (ga K "Night")) (by rfl) gNight rfl)) pa_nil)))))) (pe_lst (pa_cons pe_str (pa_cons pe_str (pa_cons pe_str (pa_cons pe_str (pa_cons pe_str pa_nil)))))) (nomark _))))) (pss_one (ps_ret pe_bl)) pss_nil)
      (pss_one (ps_ret (pe_cmpR op_eq (pe_callB call_len_seq (by rfl) (T.fr "len" (by decide)) PySem.boot_len (pa_cons (pv 0) pa_nil)) pe_int (nomark _))))))))))))), ?_⟩
    have hs : L2.start scUr_N [v] = [some v, none, none, none, none, none, none, none] := rfl
    rw [hs]
    refine ER.asg (i := 1) (er_A (K := K)) fun v1 H1 s1 e1 => ?_
    show tSeq _ _ _ [some v, some v1, none, none, none, none, none, none] H1
    refine ER.asg (i := 1) (er_catG (K := K) (er_var (i := 1) rfl stb_gs e1) (er_B (K := K)) (by decide)) fun v2 H2 s2 e2 => ?_
    show tSeq _ _ _ [some v, some v2, none, none, none, none, none, none] H2
    refine ER.asg (i := 1) (er_catG (K := K) (er_var (i := 1) rfl stb_gs e2) (er_C (K := K)) (by decide)) fun v3 H3 s3 e3 => ?_
    show tSeq _ _ _ [some v, some v3, none, none, none, none, none, none] H3
    have s03 := (s1.trans s2).trans s3
    obtain ⟨U, us, rfl, hU, g⟩ := e3
    have okd : ∀ d ∈ ulA ++ ulB ++ ulC, DOk d.1 d.2.1 d.2.2 := fun d hd => by
      rcases List.mem_append.mp hd with hd | hd
      · rcases List.mem_append.mp hd with hd | hd
        · exact ulA_ok d hd
        · exact ulB_ok d hd
      · exact ulC_ok d hd
    generalize hds : ulA ++ ulB ++ ulC = ds at g okd
    have nod : (ds.map dT).Nodup := hds ▸ ul_nodup
    have dl : ds.length ≤ 100 := by rw [← hds]; decide
    refine ⟨_, rfl, U, us, rfl, SqL.of hU, ?_⟩
    refine for_it (walk_enum (K := K) (a := U) (xs := us)) (fun i σ' H' => ∃ a4 a5, σ' = [some v, some (.ref U), none, none, a4, a5, none, none] ∧ Same H3 H') ⟨none, none, rfl, same_rfl⟩ (fun i σ' H' _ ⟨_, _, _, s⟩ => SqL.of (s _ _ hU)) ?_ ?_
    · rintro i x σ' H4 H5 hi ⟨a4, a5, rfl, s4⟩ ⟨t, x0, y0, rfl, nt, rfl, e1, e2⟩
      cases e1
      have e2 : us[i]? = some y0 := e2
      have hi2 : i < ds.length := by rw [← g.len]; exact hi
      have s5 := same_new (o := .tup [V.int (i : Nat), y0]) nt
      refine ⟨t, _, rfl, SqT.of upd_same, rfl, _, _, rfl, _, _, rfl, rfl, ?_⟩
      have s45 := s4.trans s5
      exact (t_ne0 (K := K) (unl_none (v0 := v) (a := i) (d1 := ds[i]) T (s45 _ _ hU) (g.same s45) okd nod dl (List.getElem?_eq_getElem hi2) (stb_g _ _ _ s45 (g.at_ i y0 _ e2 (List.getElem?_eq_getElem hi2))))).ifS (fun z => nomatch z) fun _ H6 s6 => ⟨_, _, rfl, s45.trans s6⟩
    · rintro σ' H4 ⟨a4, a5, rfl, s4⟩
      refine ER.asg (i := 2) (er_D (K := K)) fun v5 H5 s5 e5 => ?_
      show tSeq _ _ _ [some v, some (.ref U), some v5, none, a4, a5, none, none] H5
      refine ER.asg (i := 2) (er_catG (K := K) (er_var (i := 2) rfl stb_gs e5) (er_D2 (K := K)) (by decide)) fun v6 H6 s6 e6 => ?_
      show tSeq _ _ _ [some v, some (.ref U), some v6, none, a4, a5, none, none] H6
      refine ER.asg (i := 3) (er_strsL ["end 2", "live 2", "down 2", "unfix f", "fix f", "shut 2", "try 2 3", "meet 2 3", "drop f 2", "merge 2", "offer 2", "redo 2"] (by decide)) fun v7 H7 s7 e7 => ?_
      show tSeq _ _ _ [some v, some (.ref U), some v6, some v7, a4, a5, none, none] H7
      have c1 := er_strs2 (K := K) (σ := [some v, some (.ref U), some v6, some v7, a4, a5, none, none]) (H := H7) (i := 5) (er_var (i := 2) rfl stb_gs (stb_gs _ _ _ s7 e6)) (by decide) (fun _ => rfl) (fun _ => rfl)
      rw [nm_due] at c1
      have c2 : ER (tLst (tCons (ClX.tCVal K (tC (.ref (ga K "Fix"))) "KIND") (tCons (ClX.tCVal K (tC (.ref (ga K "Unfix"))) "KIND") (tCons (ClX.tCVal K (tC (.ref (ga K "Cut"))) "KIND") (tCons (ClX.tCVal K (tC (.ref (ga K "Rise"))) "KIND") (tCons (ClX.tCVal K (tC (.ref (ga K "Night"))) "KIND") tNil)))))) [some v, some (.ref U), some v6, some v7, a4, a5, none, none] H7 (AtL ((["fix", "unfix", "cut", "rise", "night"] : List Str).map V.str)) :=
        er_lstS (ers_cons (er_con T (q := ("Fix", "fix")) (by decide)) (ers_cons (er_con T (q := ("Unfix", "unfix")) (by decide)) (ers_cons (er_con T (q := ("Cut", "cut")) (by decide)) (ers_cons (er_con T (q := ("Rise", "rise")) (by decide)) (ers_cons (er_con T (q := ("Night", "night")) (by decide)) ers_nil))))) (by decide)
      refine TestR.then (TestR.or (t_neL (K := K) c1 (er_var (i := 3) rfl stb_l e7) (by decide +kernel) (by decide +kernel)) (t_neL (K := K) c2 (er_strsL ["fix", "unfix", "cut", "rise", "night"] (by decide)) (by decide +kernel) (by decide +kernel))) (fun z => absurd z (by decide +kernel)) (fun _ H8 s8 => ?_)
      have s08 := s03.trans (s4.trans (s5.trans (s6.trans (s7.trans s8))))
      have ln : ER (tCB (rLenS K) (tCons (tVar 0) tNil)) [some v, some (.ref U), some v6, some v7, a4, a5, none, none] H8 (IsV (.int (19 : Nat))) := (er_var (i := 0) rfl stb_t (stb_t _ _ _ s08 hv)).cb fun x H9 F s9 ⟨r, e, hr⟩ k => by
        obtain rfl := e
        exact ⟨r, _, rfl, .inr (SqT.of hr), k _ H9 same_rfl rfl⟩
      refine (er_eqI ln er_c).go fun u H9 s9 e => ?_
      obtain rfl := e
      exact q H9 (s08.trans s9)
end
end K8
set_option Elab.async false
set_option linter.all false
set_option maxRecDepth 100000
set_option maxHeartbeats 1000000
/-! [*x]: x an own object with __iter__ (a tuple's iterator) and __len__. -/
namespace Ow
open PySem PySem.Spec PyProof.Rows L2 PySem.W
/-- an empty list at S that none but this rule knows -/
def LsO (S : Addr) : HO := .ext fun h => ∃ c, h.get? S = some { cls := .type "list", data := .seq #[] c }
theorem star_own {X : Cx} {C f g a dx tp : Addr} {k k2 : Nat} {fd : FuncData} {sp : Sp} {fs : List (Str × V)} {xs : List V} {pins : List (Addr × Obj)} {σ : L2.St} {H : Hp} {s : Shared} {E : Value → Shared → Prop} {Q : List Value → Shared → Prop}
    (hc : X.calm = true) (I : Inv X pins σ H s) (hs : findIn X.K (.ref C) "__iter__" = some (some (.ref f))) (hf : isFn X.K (.ref f) = true) (hl : findIn X.K (.ref C) "__len__" = some (some (.ref g))) (hg : isFn X.K (.ref g) = true)
    (ea : H a = some (.ins C dx fs)) (ht : SqT X.K H tp xs) (hz : xs.length ≤ 1000) (hr : Room (k + 4) X.A)
    (FL : FnOk X.prog X.w X.K X.mg X.base CX0 k2 g fd ["self"] sp) (hb : Binds X.K fd ["self"] []) (hr2 : Room (k2 + 4) X.A) (hsp : ∀ H', (∀ c o, H c = some o → H' c = some o) → sp [.ref a] H' (fun v H2 => v = .int xs.length ∧ H2 = H') E0)
    (hit : ∀ H', (∀ c o, H c = some o → H' c = some o) → Gives1 { X with A := X.A.in1 } k f a tp H')
    (hQ : ∀ us s', Inv X pins σ H s' → Vals xs us → Q us s') : PySem.W.StarOf (model X.prog X.w) X.A E (.ref a) Q s := by
  obtain ⟨mA, O, _⟩ := ins_get I.hok ea
  obtain ⟨od, J, _⟩ := O.look
  have z : wpAny (model X.prog X.w) X.A (collect (.ref a)) Q E s := by
    unfold collect
    refine wpAny_bind (wpAny_runValue (codeAny_builtin F.entry_proto_collect ?_))
    rw [Around.under_plainId F.plain_proto_collect _]
    show wpAny _ X.A.in1 (newList [] >>= fun l => again (.builtin "list.__iadd__" ⟨[l, .ref a], []⟩)) _ _ s
    refine wpAny_bind (wpAny_newObj_type ?_)
    refine wpAny_pure ⟨plainId_quiet F.plain_list_iadd _, codeAny_builtin F.entry_list_iadd ?_⟩
    rw [Around.under_plainId F.plain_list_iadd _]
    show wpAny _ X.A.in1 (Builtin.List.listExtendWith (.ref s.heap.objs.size) (.ref a) (.ref s.heap.objs.size)) _ _ _
    have I1 : Inv X pins σ (upd H s.heap.objs.size (LsO s.heap.objs.size)) { s with heap := s.heap.push { cls := .type "list", data := .seq ([] : List Value).toArray } } := by
      have := I.laid (t' := s.toks) (a := s.heap.objs.size) (o := LsO s.heap.objs.size) (h' := s.heap.push { cls := .type "list", data := .seq ([] : List Value).toArray }) (fun b u e => Heap.get?_push_of_some _ e) (Nat.le_refl _) ⟨⟨0, Heap.get?_push_size _ rfl⟩, ⟨_, Heap.get?_push_size _ rfl⟩, fun _ _ ⟨c, e⟩ k => ⟨c, k _ e⟩⟩
      exact this
    obtain ⟨mA1, O1, _⟩ := ins_get I1.hok (a := a) (by rw [upd_ne (ne_of_none ea (I.hok.fresh (Nat.le_refl _)))]; exact ea)
    obtain ⟨od1, J1, _⟩ := O1.look
    unfold Builtin.List.listExtendWith
    refine wpAny_bind (J1.type.here ?_)
    have neS : s.heap.objs.size ≠ a := fun e => by
      have := I.hok.fresh (Nat.le_refl s.heap.objs.size)
      rw [e, ea] at this
      exact nomatch this
    have h1 : (Builtin.List.listSameRef (Value.ref s.heap.objs.size) (Value.ref a) || Value.ref C == Value.type "list" || Value.ref C == Value.type "tuple") = false := by
      have e0 : Builtin.List.listSameRef (Value.ref s.heap.objs.size) (Value.ref a) = false := by simp [Builtin.List.listSameRef, neS]
      rw [e0]
      rfl
    rw [if_neg (by rw [h1]; exact Bool.false_ne_true)]
    obtain ⟨m1, hF1⟩ := I1.fr
    have sub1 : ∀ c o, H c = some o → upd H s.heap.objs.size (LsO s.heap.objs.size) c = some o := fun c o e => by rw [upd_ne (ne_of_none e (I.hok.fresh (Nat.le_refl _)))]; exact e
    refine wpAny_bind (PySem.W.owit_iter hF1 I1.ok.mod.kin J1 hs hf (wpAny_call (codeAny_mono (hit _ sub1 _ I1.env0.in1 (hr.mono (by omega)).in1 I1.kIn) fun rs s2 hq => ?_)))
    cases rs with
    | error e => exact (show False from hq).elim
    | ok fl =>
      cases fl with
      | ret u =>
        obtain ⟨v, H2, I2, rv, it, rfl, hn, hzz, rfl⟩ := I1.after hq
        obtain rfl : u = Value.ref it := rv
        have ho : ObjOk X.prog X.w (upd (upd H s.heap.objs.size (LsO s.heap.objs.size)) it (TuO tp it)) s2.heap it (TuO tp it) := I2.hok it _ upd_same
        have st : s2.heap.IsTupleIter it tp 0 := ho.1
        unfold PySem.W.OwitIt
        have hT : s2.TypeIs (.ref it) "tuple_iterator" := let ⟨o, e1, e2, _⟩ := st; ⟨o, e1, e2⟩
        refine wpAny_specialOf hT PySem.F.slot_tuple_iterator_next.lookup ?_
        have ea2 : (upd (upd H s.heap.objs.size (LsO s.heap.objs.size)) it (TuO tp it)) a = some (.ins C dx fs) := by rw [upd_ne (ne_of_none (sub1 _ _ ea) hn)]; exact sub1 _ _ ea
        obtain ⟨mA2, O2, _⟩ := ins_get I2.hok ea2
        obtain ⟨od2, J2, _⟩ := O2.look
        refine wpAny_bind (wpAny_holding ?_)
        unfold Builtin.List.listLengthHint
        refine wpAny_bind (wpAny_bind (J2.type.here ((looks_findIn I2.kIn hl).here ?_)))
        dsimp only
        refine wpAny_ite_split (fun h => Bool.noConfusion (show false = true from h)) fun _ => ?_
        refine wpAny_ite_split (fun _ => ?_) fun h => absurd rfl h
        refine wpAny_bind (wpAny_rule ?_)
        obtain ⟨m2, hF2⟩ := I2.fr
        have sub2 : ∀ c o, H c = some o → (upd (upd H s.heap.objs.size (LsO s.heap.objs.size)) it (TuO tp it)) c = some o := fun c o e => by rw [upd_ne (ne_of_none (sub1 _ _ e) hn)]; exact sub1 _ _ e
        refine wpAny_bind (wpAny_attempt (PySem.W.len_K hF2 I2.ok.mod.kin J2 hl hg (wpAny_call (codeAny_mono (FL.run X.A.in1.in1 X.stack s2 _ ⟨[.ref a], []⟩ [.ref a] [.ref a] _ E0 (hr2.mono (by omega)).in1.in1 I2.env0.in1.in1 (by
          have := hb s2 [.ref a] I2.kIn rfl
          simpa using this) (.cons rfl .nil) (hsp _ sub2)) fun rs s3 hq => ?_))))
        cases rs with
        | error e => exact (show False from hq).elim
        | ok fl =>
          cases fl with
          | ret u =>
            obtain ⟨v, H3, I3, rv, rfl, rfl⟩ := I2.after hq
            obtain ⟨t, rfl⟩ := rv
            refine ⟨⟨by omega, by omega⟩, ?_⟩
            dsimp only
            refine wpAny_bind (wpAny_pure ?_)
            dsimp only
            refine wpAny_ite_split (fun h => ?_) fun _ => wpAny_pure ?_
            · have h2 : decide ((xs.length : Int).toNat > sizeLine) = true := h
              have := of_decide_eq_true h2
              rw [sizeLine_eq] at this
              omega
            · have n0S : X.s_0.heap.get? s.heap.objs.size = none := by
                cases e : X.s_0.heap.get? s.heap.objs.size with
                | none => rfl
                | some o => exact absurd (Heap.lt_size e) (Nat.not_lt.mpr I.sz)
              have le1 : s.heap.objs.size ≤ it := Nat.le_trans (by show s.heap.objs.size ≤ (s.heap.push _).objs.size; rw [Heap.size_push]; exact Nat.le_succ _) hzz
              have n0I : X.s_0.heap.get? it = none := by
                cases e : X.s_0.heap.get? it with
                | none => rfl
                | some o => exact absurd (Heap.lt_size e) (Nat.not_lt.mpr (Nat.le_trans I.sz le1))
              have hnH : H it = none := I.hok.fresh le1
              have hnS : H s.heap.objs.size = none := I.hok.fresh (Nat.le_refl _)
              have neIS : s.heap.objs.size ≠ it := fun e => by
                rw [← e, upd_same] at hn
                exact nomatch hn
              have J3 : Inv X pins σ H s3 := by
                have a1 := forget I3 upd_same n0I
                rw [delH_new hn] at a1
                have a2 := forget a1 upd_same n0S
                rw [delH_new hnS] at a2
                exact a2
              have hoS : ∃ c, s3.heap.get? s.heap.objs.size = some { cls := .type "list", data := .seq #[] c } := by
                have q : ObjOk X.prog X.w (upd (upd H s.heap.objs.size (LsO s.heap.objs.size)) it (TuO tp it)) s3.heap s.heap.objs.size (LsO s.heap.objs.size) := I3.hok _ _ (by rw [upd_ne neIS, upd_same])
                exact q.1
              have hoI : s3.heap.IsTupleIter it tp 0 := by
                have q : ObjOk X.prog X.w (upd (upd H s.heap.objs.size (LsO s.heap.objs.size)) it (TuO tp it)) s3.heap it (TuO tp it) := I3.hok it _ upd_same
                exact q.1
              obtain ⟨its, rvs, pl, hzs⟩ := J3.tuple ht
              obtain ⟨c0, hc0⟩ := hoS
              have neT : tp ≠ it := fun e => by
                obtain ⟨o, e1, e2, e3⟩ := hoI
                obtain ⟨o2, f1, f2, _⟩ := (show s3.heap.IsTuple tp its.toArray from pl)
                rw [e, e1] at f1
                cases f1
                rw [e2] at f2
                exact absurd f2 (by decide)
              have neTS : tp ≠ s.heap.objs.size := fun e => by
                obtain ⟨o2, f1, f2, _⟩ := (show s3.heap.IsTuple tp its.toArray from pl)
                rw [e, hc0] at f1
                cases f1
                have f3 : Value.type "list" = Value.type "tuple" := f2
                exact absurd f3 (by decide)
              have loop : ∀ (h5 : Heap) (c : Nat) (R : Result → Shared → Prop), h5.get? s.heap.objs.size = some { cls := .type "list", data := .seq #[] c } → (∀ b o, b ≠ s.heap.objs.size → s3.heap.get? b = some o → h5.get? b = some o) →
                  (∀ s' us c', Inv X pins σ H s' → Vals xs us → s'.heap.get? s.heap.objs.size = some { cls := .type "list", data := .seq us.toArray c' } → R (.ok (.ret (.ref s.heap.objs.size))) s') →
                  codeAny (model X.prog X.w) X.A (.builtin "list.extend.loop" ⟨[.ref s.heap.objs.size, .ref it, .ref s.heap.objs.size], []⟩) R { s3 with heap := h5, toks := s3.toks + 1 } := by
                intro h5 c R hS5 oth hR
                have hh : X.A.in1.handled = none := J3.ok.hd hc
                refine codeAny_extend_loopS (Walks.tuple (prog := X.prog) (w := X.w) (A := X.A.in1) hh it tp neT its.toArray).toS (by rw [List.size_toArray, ← rvs.length, sizeLine_eq]; omega) s.heap.objs.size (by simp [neIS, neTS.symm]) _ its.toArray.size 0 _ #[] c rfl (Nat.zero_le _)
                  ⟨hoI.at fun o e => oth _ _ neIS.symm e, Heap.IsTuple.at (show s3.heap.IsTuple tp its.toArray from pl) fun o e => oth _ _ neTS e⟩ hS5 (ItemsOf.nil _) fun s' acc' c' hm hS' hacc => ?_
                have eacc : acc' = its.toArray := by
                  refine Array.ext hacc.1 fun j h1 h2 => ?_
                  have q : its.toArray[j]? = some acc'[j] := hacc.2 j acc'[j] (by simp [h1])
                  rw [Array.getElem?_eq_getElem h2] at q
                  exact (Option.some.inj q).symm
                rw [eacc] at hS'
                have mv := hm.heap
                have e1 : s'.gens = s3.gens := hm.gens
                have e2 : s'.drawn = s3.drawn := hm.drawn
                have e3 : s'.os = s3.os := hm.os
                have es : s' = { s3 with heap := s'.heap, toks := s'.toks } := by
                  obtain ⟨h', g', d', t', o'⟩ := s'
                  subst e1 e2 e3
                  rfl
                refine hR s' its c' ?_ rvs hS'
                rw [es]
                refine J3.turnedL (ch := [s.heap.objs.size, it]) (t' := s'.toks) (h' := s'.heap) (fun b o hb e => ?_) fun b hb => ?_
                · have nS : b ≠ s.heap.objs.size := fun e => hb (by rw [e]; exact List.mem_cons_self)
                  exact mv b o hb (oth b o nS e)
                · rcases List.mem_cons.mp hb with rfl | hb
                  · exact I.fpOk (Nat.le_refl _) hnS
                  · rw [List.mem_singleton.mp hb]
                    exact I.fpOk le1 hnH
              refine wpAny_ite_split (fun _ => ?_) fun _ => ?_
              · refine wpAny_bind (wpAny_rule ?_)
                unfold Builtin.List.listTouch
                refine wpAny_bind (wpAny_bind (wpAny_updateSeq hc0 rfl ?_))
                have e1 := Heap.get?_update_self (Obj.mapSeq (·.push .none)) hc0 rfl
                refine wpAny_updateSeq e1 rfl ?_
                have e2 := Heap.get?_update_self (Obj.mapSeq (·.pop)) e1 rfl
                refine wpAny_pure ⟨plainId_quiet F.plain_extend_loop _, loop _ _ _ (by rw [e2]; rfl) (fun b o hb e => ?_) fun s' us c' I' rv hS' => ?_⟩
                · exact (Heap.get?_update_other _ _ hb.symm).trans ((Heap.get?_update_other _ _ hb.symm).trans e)
                · show wpAny _ X.A (load s.heap.objs.size >>= _) _ _ s'
                  refine wpAny_bind (wpAny_load hS' ?_)
                  exact wpAny_pure (hQ us s' I' rv)
              · refine wpAny_pure ⟨plainId_quiet F.plain_extend_loop _, loop s3.heap c0 _ hc0 (fun _ _ _ e => e) fun s' us c' I' rv hS' => ?_⟩
                show wpAny _ X.A (load s.heap.objs.size >>= _) _ _ s'
                refine wpAny_bind (wpAny_load hS' ?_)
                exact wpAny_pure (hQ us s' I' rv)
          | next => exact False.elim hq
          | brk => exact False.elim hq
          | cont => exact False.elim hq
      | next => exact False.elim hq
      | brk => exact False.elim hq
      | cont => exact False.elim hq
  unfold PySem.W.StarOf notIterableAtAll
  refine wpAny_bind (wpAny_bind (J.type.here ((looks_findIn I.kIn hs).here ?_)))
  exact wpAny_pure ⟨rfl, z⟩
end Ow
set_option Elab.async false
set_option linter.all false
set_option maxRecDepth 100000
set_option maxHeartbeats 1000000
/-! tuple(x): x an own object with __iter__ (a tuple's iterator) and __len__. -/
namespace Ow
open PySem PySem.Spec PyProof.Rows L2 PySem.W
theorem collect_own {X : Cx} {C f g a dx tp : Addr} {k k2 : Nat} {fd : FuncData} {sp : Sp} {fs : List (Str × V)} {xs : List V} {pins : List (Addr × Obj)} {σ : L2.St} {H : Hp} {s : Shared} {E : Value → Shared → Prop} {Q : List Value → Shared → Prop}
    (hc : X.calm = true) (I : Inv X pins σ H s) (hs : findIn X.K (.ref C) "__iter__" = some (some (.ref f))) (hf : isFn X.K (.ref f) = true) (hl : findIn X.K (.ref C) "__len__" = some (some (.ref g))) (hg : isFn X.K (.ref g) = true)
    (ea : H a = some (.ins C dx fs)) (ht : SqT X.K H tp xs) (hz : xs.length ≤ 1000) (hr : Room (k + 8) X.A)
    (FL : FnOk X.prog X.w X.K X.mg X.base CX0 k2 g fd ["self"] sp) (hb : Binds X.K fd ["self"] []) (hr2 : Room (k2 + 8) X.A) (hsp : ∀ H', (∀ c o, H c = some o → H' c = some o) → sp [.ref a] H' (fun v H2 => v = .int xs.length ∧ H2 = H') E0)
    (hit : ∀ H', (∀ c o, H c = some o → H' c = some o) → Gives1 { X with A := X.A.in1.in1.in1 } k f a tp H')
    (hQ : ∀ us s', Inv X pins σ H s' → Vals xs us → Q us s') : wpAny (model X.prog X.w) X.A.in1.in1 (collect (.ref a)) Q E s := by
  obtain ⟨mA, O, _⟩ := ins_get I.hok ea
  obtain ⟨od, J, _⟩ := O.look
  unfold collect
  refine wpAny_bind (wpAny_runValue (codeAny_builtin F.entry_proto_collect ?_))
  rw [Around.under_plainId F.plain_proto_collect _]
  show wpAny _ X.A.in1.in1.in1 (newList [] >>= fun l => again (.builtin "list.__iadd__" ⟨[l, .ref a], []⟩)) _ _ s
  refine wpAny_bind (wpAny_newObj_type ?_)
  refine wpAny_pure ⟨plainId_quiet F.plain_list_iadd _, codeAny_builtin F.entry_list_iadd ?_⟩
  rw [Around.under_plainId F.plain_list_iadd _]
  show wpAny _ X.A.in1.in1.in1 (Builtin.List.listExtendWith (.ref s.heap.objs.size) (.ref a) (.ref s.heap.objs.size)) _ _ _
  have I1 : Inv X pins σ (upd H s.heap.objs.size (LsO s.heap.objs.size)) { s with heap := s.heap.push { cls := .type "list", data := .seq ([] : List Value).toArray } } := by
    have := I.laid (t' := s.toks) (a := s.heap.objs.size) (o := LsO s.heap.objs.size) (h' := s.heap.push { cls := .type "list", data := .seq ([] : List Value).toArray }) (fun b u e => Heap.get?_push_of_some _ e) (Nat.le_refl _) ⟨⟨0, Heap.get?_push_size _ rfl⟩, ⟨_, Heap.get?_push_size _ rfl⟩, fun _ _ ⟨c, e⟩ k => ⟨c, k _ e⟩⟩
    exact this
  obtain ⟨mA1, O1, _⟩ := ins_get I1.hok (a := a) (by rw [upd_ne (ne_of_none ea (I.hok.fresh (Nat.le_refl _)))]; exact ea)
  obtain ⟨od1, J1, _⟩ := O1.look
  unfold Builtin.List.listExtendWith
  refine wpAny_bind (J1.type.here ?_)
  have neS : s.heap.objs.size ≠ a := fun e => by
    have := I.hok.fresh (Nat.le_refl s.heap.objs.size)
    rw [e, ea] at this
    exact nomatch this
  have h1 : (Builtin.List.listSameRef (Value.ref s.heap.objs.size) (Value.ref a) || Value.ref C == Value.type "list" || Value.ref C == Value.type "tuple") = false := by
    have e0 : Builtin.List.listSameRef (Value.ref s.heap.objs.size) (Value.ref a) = false := by simp [Builtin.List.listSameRef, neS]
    rw [e0]
    rfl
  rw [if_neg (by rw [h1]; exact Bool.false_ne_true)]
  obtain ⟨m1, hF1⟩ := I1.fr
  have sub1 : ∀ c o, H c = some o → upd H s.heap.objs.size (LsO s.heap.objs.size) c = some o := fun c o e => by rw [upd_ne (ne_of_none e (I.hok.fresh (Nat.le_refl _)))]; exact e
  refine wpAny_bind (PySem.W.owit_iter hF1 I1.ok.mod.kin J1 hs hf (wpAny_call (codeAny_mono (hit _ sub1 _ I1.env0.in1.in1.in1 (hr.mono (by omega)).in1.in1.in1 I1.kIn) fun rs s2 hq => ?_)))
  cases rs with
  | error e => exact (show False from hq).elim
  | ok fl =>
    cases fl with
    | ret u =>
      obtain ⟨v, H2, I2, rv, it, rfl, hn, hzz, rfl⟩ := I1.after hq
      obtain rfl : u = Value.ref it := rv
      have ho : ObjOk X.prog X.w (upd (upd H s.heap.objs.size (LsO s.heap.objs.size)) it (TuO tp it)) s2.heap it (TuO tp it) := I2.hok it _ upd_same
      have st : s2.heap.IsTupleIter it tp 0 := ho.1
      unfold PySem.W.OwitIt
      have hT : s2.TypeIs (.ref it) "tuple_iterator" := let ⟨o, e1, e2, _⟩ := st; ⟨o, e1, e2⟩
      refine wpAny_specialOf hT PySem.F.slot_tuple_iterator_next.lookup ?_
      have ea2 : (upd (upd H s.heap.objs.size (LsO s.heap.objs.size)) it (TuO tp it)) a = some (.ins C dx fs) := by rw [upd_ne (ne_of_none (sub1 _ _ ea) hn)]; exact sub1 _ _ ea
      obtain ⟨mA2, O2, _⟩ := ins_get I2.hok ea2
      obtain ⟨od2, J2, _⟩ := O2.look
      refine wpAny_bind (wpAny_holding ?_)
      unfold Builtin.List.listLengthHint
      refine wpAny_bind (wpAny_bind (J2.type.here ((looks_findIn I2.kIn hl).here ?_)))
      dsimp only
      refine wpAny_ite_split (fun h => Bool.noConfusion (show false = true from h)) fun _ => ?_
      refine wpAny_ite_split (fun _ => ?_) fun h => absurd rfl h
      refine wpAny_bind (wpAny_rule ?_)
      obtain ⟨m2, hF2⟩ := I2.fr
      have sub2 : ∀ c o, H c = some o → (upd (upd H s.heap.objs.size (LsO s.heap.objs.size)) it (TuO tp it)) c = some o := fun c o e => by rw [upd_ne (ne_of_none (sub1 _ _ e) hn)]; exact sub1 _ _ e
      refine wpAny_bind (wpAny_attempt (PySem.W.len_K hF2 I2.ok.mod.kin J2 hl hg (wpAny_call (codeAny_mono (FL.run X.A.in1.in1.in1.in1 X.stack s2 _ ⟨[.ref a], []⟩ [.ref a] [.ref a] _ E0 (hr2.mono (by omega)).in1.in1.in1.in1 I2.env0.in1.in1.in1.in1 (by
        have := hb s2 [.ref a] I2.kIn rfl
        simpa using this) (.cons rfl .nil) (hsp _ sub2)) fun rs s3 hq => ?_))))
      cases rs with
      | error e => exact (show False from hq).elim
      | ok fl =>
        cases fl with
        | ret u =>
          obtain ⟨v, H3, I3, rv, rfl, rfl⟩ := I2.after hq
          obtain ⟨t, rfl⟩ := rv
          refine ⟨⟨by omega, by omega⟩, ?_⟩
          dsimp only
          refine wpAny_bind (wpAny_pure ?_)
          dsimp only
          refine wpAny_ite_split (fun h => ?_) fun _ => wpAny_pure ?_
          · have h2 : decide ((xs.length : Int).toNat > sizeLine) = true := h
            have := of_decide_eq_true h2
            rw [sizeLine_eq] at this
            omega
          · have n0S : X.s_0.heap.get? s.heap.objs.size = none := by
              cases e : X.s_0.heap.get? s.heap.objs.size with
              | none => rfl
              | some o => exact absurd (Heap.lt_size e) (Nat.not_lt.mpr I.sz)
            have le1 : s.heap.objs.size ≤ it := Nat.le_trans (by show s.heap.objs.size ≤ (s.heap.push _).objs.size; rw [Heap.size_push]; exact Nat.le_succ _) hzz
            have n0I : X.s_0.heap.get? it = none := by
              cases e : X.s_0.heap.get? it with
              | none => rfl
              | some o => exact absurd (Heap.lt_size e) (Nat.not_lt.mpr (Nat.le_trans I.sz le1))
            have hnH : H it = none := I.hok.fresh le1
            have hnS : H s.heap.objs.size = none := I.hok.fresh (Nat.le_refl _)
            have neIS : s.heap.objs.size ≠ it := fun e => by
              rw [← e, upd_same] at hn
              exact nomatch hn
            have J3 : Inv X pins σ H s3 := by
              have a1 := forget I3 upd_same n0I
              rw [delH_new hn] at a1
              have a2 := forget a1 upd_same n0S
              rw [delH_new hnS] at a2
              exact a2
            have hoS : ∃ c, s3.heap.get? s.heap.objs.size = some { cls := .type "list", data := .seq #[] c } := by
              have q : ObjOk X.prog X.w (upd (upd H s.heap.objs.size (LsO s.heap.objs.size)) it (TuO tp it)) s3.heap s.heap.objs.size (LsO s.heap.objs.size) := I3.hok _ _ (by rw [upd_ne neIS, upd_same])
              exact q.1
            have hoI : s3.heap.IsTupleIter it tp 0 := by
              have q : ObjOk X.prog X.w (upd (upd H s.heap.objs.size (LsO s.heap.objs.size)) it (TuO tp it)) s3.heap it (TuO tp it) := I3.hok it _ upd_same
              exact q.1
            obtain ⟨its, rvs, pl, hzs⟩ := J3.tuple ht
            obtain ⟨c0, hc0⟩ := hoS
            have neT : tp ≠ it := fun e => by
              obtain ⟨o, e1, e2, e3⟩ := hoI
              obtain ⟨o2, f1, f2, _⟩ := (show s3.heap.IsTuple tp its.toArray from pl)
              rw [e, e1] at f1
              cases f1
              rw [e2] at f2
              exact absurd f2 (by decide)
            have neTS : tp ≠ s.heap.objs.size := fun e => by
              obtain ⟨o2, f1, f2, _⟩ := (show s3.heap.IsTuple tp its.toArray from pl)
              rw [e, hc0] at f1
              cases f1
              have f3 : Value.type "list" = Value.type "tuple" := f2
              exact absurd f3 (by decide)
            have loop : ∀ (h5 : Heap) (c : Nat) (R : Result → Shared → Prop), h5.get? s.heap.objs.size = some { cls := .type "list", data := .seq #[] c } → (∀ b o, b ≠ s.heap.objs.size → s3.heap.get? b = some o → h5.get? b = some o) →
                (∀ s' us c', Inv X pins σ H s' → Vals xs us → s'.heap.get? s.heap.objs.size = some { cls := .type "list", data := .seq us.toArray c' } → R (.ok (.ret (.ref s.heap.objs.size))) s') →
                codeAny (model X.prog X.w) X.A.in1.in1 (.builtin "list.extend.loop" ⟨[.ref s.heap.objs.size, .ref it, .ref s.heap.objs.size], []⟩) R { s3 with heap := h5, toks := s3.toks + 1 } := by
              intro h5 c R hS5 oth hR
              have hh : X.A.in1.handled = none := J3.ok.hd hc
              refine codeAny_extend_loopS (Walks.tuple (prog := X.prog) (w := X.w) (A := X.A.in1.in1.in1) hh it tp neT its.toArray).toS (by rw [List.size_toArray, ← rvs.length, sizeLine_eq]; omega) s.heap.objs.size (by simp [neIS, neTS.symm]) _ its.toArray.size 0 _ #[] c rfl (Nat.zero_le _)
                ⟨hoI.at fun o e => oth _ _ neIS.symm e, Heap.IsTuple.at (show s3.heap.IsTuple tp its.toArray from pl) fun o e => oth _ _ neTS e⟩ hS5 (ItemsOf.nil _) fun s' acc' c' hm hS' hacc => ?_
              have eacc : acc' = its.toArray := by
                refine Array.ext hacc.1 fun j h1 h2 => ?_
                have q : its.toArray[j]? = some acc'[j] := hacc.2 j acc'[j] (by simp [h1])
                rw [Array.getElem?_eq_getElem h2] at q
                exact (Option.some.inj q).symm
              rw [eacc] at hS'
              have mv := hm.heap
              have e1 : s'.gens = s3.gens := hm.gens
              have e2 : s'.drawn = s3.drawn := hm.drawn
              have e3 : s'.os = s3.os := hm.os
              have es : s' = { s3 with heap := s'.heap, toks := s'.toks } := by
                obtain ⟨h', g', d', t', o'⟩ := s'
                subst e1 e2 e3
                rfl
              refine hR s' its c' ?_ rvs hS'
              rw [es]
              refine J3.turnedL (ch := [s.heap.objs.size, it]) (t' := s'.toks) (h' := s'.heap) (fun b o hb e => ?_) fun b hb => ?_
              · have nS : b ≠ s.heap.objs.size := fun e => hb (by rw [e]; exact List.mem_cons_self)
                exact mv b o hb (oth b o nS e)
              · rcases List.mem_cons.mp hb with rfl | hb
                · exact I.fpOk (Nat.le_refl _) hnS
                · rw [List.mem_singleton.mp hb]
                  exact I.fpOk le1 hnH
            refine wpAny_ite_split (fun _ => ?_) fun _ => ?_
            · refine wpAny_bind (wpAny_rule ?_)
              unfold Builtin.List.listTouch
              refine wpAny_bind (wpAny_bind (wpAny_updateSeq hc0 rfl ?_))
              have e1 := Heap.get?_update_self (Obj.mapSeq (·.push .none)) hc0 rfl
              refine wpAny_updateSeq e1 rfl ?_
              have e2 := Heap.get?_update_self (Obj.mapSeq (·.pop)) e1 rfl
              refine wpAny_pure ⟨plainId_quiet F.plain_extend_loop _, loop _ _ _ (by rw [e2]; rfl) (fun b o hb e => ?_) fun s' us c' I' rv hS' => ?_⟩
              · exact (Heap.get?_update_other _ _ hb.symm).trans ((Heap.get?_update_other _ _ hb.symm).trans e)
              · show wpAny _ X.A.in1.in1 (load s.heap.objs.size >>= _) _ _ s'
                refine wpAny_bind (wpAny_load hS' ?_)
                exact wpAny_pure (hQ us s' I' rv)
            · refine wpAny_pure ⟨plainId_quiet F.plain_extend_loop _, loop s3.heap c0 _ hc0 (fun _ _ _ e => e) fun s' us c' I' rv hS' => ?_⟩
              show wpAny _ X.A.in1.in1 (load s.heap.objs.size >>= _) _ _ s'
              refine wpAny_bind (wpAny_load hS' ?_)
              exact wpAny_pure (hQ us s' I' rv)
        | next => exact False.elim hq
        | brk => exact False.elim hq
        | cont => exact False.elim hq
    | next => exact False.elim hq
    | brk => exact False.elim hq
    | cont => exact False.elim hq
def rTupO (X : Cx) (C : Addr) (k : Nat) (f : Addr) (sp : Sp) : List V → Hp → VK → Prop := fun ys H Q => ∃ a dx fs tp xs, ys = [.ref a] ∧ H a = some (.ins C dx fs) ∧ SqT X.K H tp xs ∧ xs.length ≤ 1000 ∧
  (∀ H', (∀ c o, H c = some o → H' c = some o) → sp [.ref a] H' (fun v H2 => v = .int xs.length ∧ H2 = H') E0) ∧ (∀ H', (∀ c o, H c = some o → H' c = some o) → Gives1 { X with A := X.A.in1.in1.in1 } k f a tp H') ∧ ∀ p, H p = none → Q (.ref p) (upd H p (.tup xs))
theorem call_tupO {X : Cx} {C f g : Addr} {k k2 : Nat} {fd : FuncData} {sp : Sp}
    (hc : X.calm = true) (hs : findIn X.K (.ref C) "__iter__" = some (some (.ref f))) (hf : isFn X.K (.ref f) = true) (hl : findIn X.K (.ref C) "__len__" = some (some (.ref g))) (hg : isFn X.K (.ref g) = true)
    (hr : Room (k + 8) X.A) (FL : FnOk X.prog X.w X.K X.mg X.base CX0 k2 g fd ["self"] sp) (hb : Binds X.K fd ["self"] []) (hr2 : Room (k2 + 8) X.A) : CallR X (.type "tuple") (rTupO X C k f sp) := by
  intro pins s σ H ys us Q I rv h
  obtain ⟨a, dx, fs, tp, xs, rfl, ea, ht, hz, hsp, hit, hQ⟩ := h
  obtain ⟨u, rfl, ru⟩ := rv.one
  cases ru
  obtain ⟨mA, O, _⟩ := ins_get I.hok ea
  obtain ⟨od, J, _⟩ := O.look
  refine callType_codes (Q₁ := fun obj s₁ => s₁.TypeIs obj "tuple" ∧ EP X pins σ Q obj s₁) PySem.F.called_tuple (PySem.F.typeCall_tuple_1 _) PySem.F.entry_object_init ?code fun obj s₁ h₁ => ⟨h₁.1, PySem.F.args_object_init_2 obj _, object_init_meets PySem.F.called_tuple.init.lookup PySem.F.called_tuple.made (by decide) X.prog X.w X.A.in1 _ s₁ ⟨h₁.1, rfl, h₁.2⟩⟩
  refine codeAny_of_tree ?_
  show wpAny _ X.A.in1.in1 (do checkBuiltinCall "tuple.__new__" ⟨[.type "tuple", .ref a], []⟩; again (.builtin "tuple.__new__" ⟨[.type "tuple", .ref a], []⟩)) _ _ s
  refine wpAny_bind (wpAny_of_eq (PySem.F.newCall_tuple_1 _) (wpAny_pure ⟨plainId_quiet PySem.F.plain_tuple_new _, codeAny_builtin PySem.F.entry_tuple_new ?_⟩))
  rw [Around.under_plainId PySem.F.plain_tuple_new _]
  have hsub := sub_tuple_self
  have hinit := init_tuple_lookup
  have hmh := madeHere_tuple
  have ty : ∀ {Q' : Value → Shared → Prop} {E' : Value → Shared → Prop}, Q' (.ref C) s → wpAny (model X.prog X.w) X.A.in1.in1 (typeOf (.ref a)) Q' E' s := fun h => J.type.here h
  have e3 : (Value.ref C == Value.type "tuple") = false := rfl
  have col : ∀ {Q' : List Value → Shared → Prop} {E' : Value → Shared → Prop}, (∀ us s', Inv X pins σ H s' → Vals xs us → Q' us s') → wpAny (model X.prog X.w) X.A.in1.in1 (collect (.ref a)) Q' E' s := fun h => collect_own hc I hs hf hl hg ea ht hz hr FL hb hr2 hsp hit h
  wp_walk using ty, col
  intro us s' I' rv'
  show wpAny _ _ (Builtin.Tuple.tupleExact us.toArray >>= fun v => ret v) _ _ _
  unfold Builtin.Tuple.tupleExact
  have lz : us.toArray.size = xs.length := by rw [List.size_toArray, ← rv'.length]
  refine wpAny_bind (wpAny_newObj_type ?_ (by show us.toArray.size ≤ sizeLine; rw [lz, sizeLine_eq]; omega))
  refine wpAny_pure ⟨⟨_, Heap.get?_push_size _ rfl, rfl⟩, ?_⟩
  have I2 : Inv X pins σ (upd H s'.heap.objs.size (.tup xs)) { s' with heap := s'.heap.push { cls := .type "tuple", data := .seq us.toArray } } :=
    I'.laid (t' := s'.toks) (fun b o e => Heap.get?_push_of_some _ e) (Nat.le_refl _) (show ObjOk X.prog X.w _ _ _ (.tup xs) from ⟨by rw [sizeLine_eq]; omega, us, rv', IsTup.new _ _⟩)
  exact ⟨.ref s'.heap.objs.size, _, I2, rfl, hQ _ (I'.hok.fresh (Nat.le_refl _))⟩
end Ow
set_option Elab.async false
set_option linter.all false
set_option maxRecDepth 100000
set_option maxHeartbeats 3200000
/-! set(xs), xs a list of texts; sorted of such a set. -/
namespace Oo
open PySem PySem.Spec PyProof.Rows L2 PySem.W PyProof
abbrev sK (P : Program) (w : World) : PySem.KeyKind P w Str := PySem.strKind P w
def sKey (e : Int × Value) : Str := match e.2 with
  | .str x _ => x
  | _ => Str.empty
/-- a row of the table of a set of texts -/
def SRow (w : World) (e : Int × Value) : Prop := ∃ x t, e = (hashStr w x, Value.str x t)
/-- the set of n texts at a: S tells them -/
def SetS (w : World) (h : Heap) (a : Addr) (S : Str → Bool) (n : Nat) : Prop := ∃ (o : Obj) (r : Array (Int × Value)) (ep : Nat) (u : SetTable), h.get? a = some o ∧ (o.ExactSet ∧ o.data = .set r ep u) ∧ (∀ e ∈ r.toList, SRow w e) ∧
  ((r.toList.map sKey).Nodup ∧ ∀ y, S y = true ↔ y ∈ r.toList.map sKey) ∧ (r.size = n ∧ r.size < scanBound) ∧ u.fits r.size = true ∧ Ris u.place.toList ∧ (w.params.followText "set-order" = true ∨ u.led = true)
section
variable {P : Program} {w : World} {A : Around} {E : Value → Shared → Prop} {s : Shared} {a : Addr} {S : Str → Bool} {n : Nat} {h h' : Heap}
theorem SetS.kept (R : SetS w h a S n) (k : ∀ o, h.get? a = some o → h'.get? a = some o) : SetS w h' a S n := by
  obtain ⟨o, r, ep, u, at_, z⟩ := R
  exact ⟨o, r, ep, u, k o at_, z⟩
theorem SetS.to {T : Str → Bool} (R : SetS w h a S n) (e : ∀ y, T y = S y) : SetS w h a T n := (funext e : T = S) ▸ R
theorem srow_els {l : List (Int × Value)} (g : ∀ e ∈ l, SRow w e) : ElemsOf (sK P w) l := fun e he => by
  obtain ⟨x, t, rfl⟩ := g e he
  exact ⟨⟨x, strKind_is P w x t, rfl⟩, rfl⟩
theorem srow_is {e : Int × Value} (g : SRow w e) (y : Str) : (sK P w).is y e.2 = true ↔ sKey e = y := by
  obtain ⟨x, t, rfl⟩ := g
  constructor
  · intro z
    exact (sK P w).inj (Value.str x t) x y (strKind_is P w x t) z
  · intro z
    subst z
    exact strKind_is P w _ t
theorem srow_mem {l : List (Int × Value)} (g : ∀ e ∈ l, SRow w e) (y : Str) : y ∈ l.map sKey ↔ ∃ e ∈ l, (sK P w).is y e.2 = true :=
  ⟨fun z => by
    obtain ⟨e, he, q⟩ := List.mem_map.mp z
    exact ⟨e, he, (srow_is (g e he) y).mpr q⟩, fun ⟨e, he, q⟩ => List.mem_map.mpr ⟨e, he, (srow_is (g e he) y).mp q⟩⟩
theorem setS_tail {gv : Bool → Sem Unit} (hgv : ∀ (b : Bool) (s1 : Shared) (F : Unit → Shared → Prop), F () s1 → wpAny (model P w) A (gv b) F E s1) {o : Obj} {r r1 : Array (Int × Value)} {ep : Nat} {u u1 : SetTable} (at_ : s.heap.get? a = some o) (ex : o.ExactSet) (dt : o.data = .set r ep u)
    (rows : ∀ e ∈ r1.toList, SRow w e) (nod : (r1.toList.map sKey).Nodup) (mem : ∀ y, S y = true ↔ y ∈ r1.toList.map sKey) (few : r1.size < scanBound) (ft : u1.fits r1.size = true) (rs : Ris u1.place.toList) (ld : w.params.followText "set-order" = true ∨ u1.led = true) {dm : Bool} {F : Option Bool → Shared → Prop}
    (k : ∀ h', Heap.SameBut a s.heap h' → SetS w h' a S r1.size → F (some true) { s with heap := h' }) :
    wpAny (model P w) A (do
      storeSet a r1 u1
      if (!dm && u1.tooFull) = true then do
        gv (relayAll u1 r1 (SetTable.grown r1.size)).2.2
        storeSet a (relayAll u1 r1 (SetTable.grown r1.size)).1 (relayAll u1 r1 (SetTable.grown r1.size)).2.1
        pure (some true)
      else pure (some true)) F E s := by
  have at1 := L2.store_at (es' := r1) (t' := u1) at_ dt
  have but1 := Heap.SameBut.update s.heap a (Obj.putSet r1 u1)
  refine wpAny_bind (wpAny_storeSet_of at_ dt ?_ (fits_of_scanBound few))
  split
  case isFalse => exact wpAny_pure (k _ but1 ⟨_, r1, _, u1, at1, ⟨ex, rfl⟩, rows, ⟨nod, mem⟩, ⟨rfl, few⟩, ft, rs, ld⟩)
  case isTrue =>
    have p2 := relayAll_perm u1 r1 (SetTable.grown r1.size)
    have f2 := relayAll_fits u1 r1 (SetTable.grown r1.size)
    have s2 := relayAll_ris u1 r1 (SetTable.grown r1.size)
    have l2 := relayAll_led u1 r1 (SetTable.grown r1.size)
    generalize relayAll u1 r1 (SetTable.grown r1.size) = Y at p2 f2 s2 l2 ⊢
    obtain ⟨r2, u2, gz⟩ := Y
    have z2 : r2.size = r1.size := by
      have := p2.length_eq
      rwa [Array.length_toList, Array.length_toList] at this
    refine wpAny_bind (hgv _ _ _ (wpAny_bind (wpAny_storeSet_of at1 rfl (wpAny_pure (k _ (but1.trans (Heap.SameBut.update _ a _)) ?_)) (fits_of_scanBound (by show r2.size < _; omega)))))
    refine ⟨_, r2, _, u2, L2.store_at at1 rfl, ⟨ex, rfl⟩, fun e he => rows e (p2.mem_iff.mp he), ⟨(p2.map sKey).nodup_iff.mpr nod, fun y => (mem y).trans (p2.map sKey).mem_iff.symm⟩, ⟨z2, by omega⟩, f2, s2, ?_⟩
    rcases ld with z | z
    · exact .inl z
    · exact .inr (l2.trans z)
theorem setS_add {x : Str} {t : Tok} {F : Bool → Shared → Prop} (R : SetS w s.heap a S n) (room : n + 1 < scanBound)
    (k : ∀ h' b, Heap.SameBut a s.heap h' → SetS w h' a (fun y => S y || decide (y = x)) (if S x = true then n else n + 1) → F b { s with heap := h' }) : wpAny (model P w) A (setAddHashed a (.str x t) (hashStr w x)) F E s := by
  obtain ⟨o, r, ep, u, at_, ⟨ex, dt⟩, rows, ⟨nod, mem⟩, ⟨sz, few⟩, ft, rs, ld⟩ := R
  have is1 : (sK P w).is x (.str x t) = true := strKind_is P w x t
  have els : ElemsOf (sK P w) r.toList := srow_els rows
  have scn : (Value.str x t).scannable = true := rfl
  show wpAny (model P w) A (setAddHashed a (.str x t) ((sK P w).hash x)) F E s
  unfold setAddHashed setAddHashedIn
  refine wpAny_holding (wpAny_bind (wpAny_setState_of at_ dt ft ?_))
  dsimp only
  rw [byScan_of scn few els, if_pos rfl]
  unfold setAddByScan
  refine wpAny_bind (wpAny_bind (wpAny_rule (wpAny_bind (wpAny_setScan_of is1 at_ dt ft els ?_))))
  cases fi : List.findIdx? (fun e => (sK P w).is x e.2) r.toList with
  | some j =>
    dsimp only
    obtain ⟨hj, pj, _⟩ := List.findIdx?_eq_some_iff_getElem.mp fi
    have sx : S x = true := (mem x).mpr ((srow_mem (P := P) rows x).mpr ⟨r.toList[j], List.getElem_mem hj, pj⟩)
    have q := k s.heap false (Heap.SameBut.refl a s.heap)
    rw [if_pos sx] at q
    refine wpAny_pure (wpAny_pure (q ⟨o, r, ep, u, at_, ⟨ex, dt⟩, rows, ⟨nod, fun y => ?_⟩, ⟨sz, few⟩, ft, rs, ld⟩))
    rw [Bool.or_eq_true, decide_eq_true_eq, ← mem y]
    exact ⟨fun z => z.elim id fun e => by rw [e]; exact sx, .inl⟩
  | none =>
    dsimp only
    have nx : x ∉ r.toList.map sKey := fun z => by
      obtain ⟨e, he, q⟩ := (srow_mem (P := P) rows x).mp z
      have := List.findIdx?_eq_none_iff.mp fi e he
      rw [q] at this
      cases this
    have sx : ¬ S x = true := fun z => nx ((mem x).mp z)
    have gv : ∀ (b : Bool) (s1 : Shared) (G : Unit → Shared → Prop), G () s1 → wpAny (model P w) A (match b with | true => rule "set.scan.the-table-gave-way" | false => pure ()) G E s1 := fun b s1 G q => by
      cases b
      · exact wpAny_pure q
      · exact wpAny_rule q
    have p1 := layNew_perm u r ((sK P w).hash x) (.str x t)
    have f1 := layNew_fits u r ((sK P w).hash x) (.str x t)
    have s1 := layNew_ris u r ((sK P w).hash x) (.str x t) rs
    have l1 := layNew_led u r ((sK P w).hash x) (.str x t)
    generalize layNew u r ((sK P w).hash x) (.str x t) = Y at p1 f1 s1 l1 ⊢
    obtain ⟨r1, u1, dm, gz⟩ := Y
    dsimp only at p1 f1 s1 l1 ⊢
    rw [Array.toList_push] at p1
    have p2 : r1.toList.Perm ((hashStr w x, Value.str x t) :: r.toList) := p1.trans (List.perm_append_singleton _ _)
    have p3 : (r1.toList.map sKey).Perm (x :: r.toList.map sKey) := p2.map sKey
    have rows1 : ∀ e ∈ r1.toList, SRow w e := fun e he => by
      rcases List.mem_cons.mp (p2.mem_iff.mp he) with rfl | z
      · exact ⟨x, t, rfl⟩
      · exact rows e z
    have nod1 : (r1.toList.map sKey).Nodup := p3.nodup_iff.mpr (List.nodup_cons.mpr ⟨nx, nod⟩)
    have mem1 : ∀ y, (S y || decide (y = x)) = true ↔ y ∈ r1.toList.map sKey := fun y => by
      rw [p3.mem_iff, List.mem_cons, Bool.or_eq_true, decide_eq_true_eq, mem y]
      exact or_comm
    have sz1 : r1.size = n + 1 := by
      have := p2.length_eq
      rw [List.length_cons, Array.length_toList, Array.length_toList] at this
      omega
    have ld1 : w.params.followText "set-order" = true ∨ u1.led = true := by
      rcases ld with z | z
      · exact .inl z
      · exact .inr (l1.trans z)
    have fin : ∀ h', Heap.SameBut a s.heap h' → SetS w h' a (fun y => S y || decide (y = x)) r1.size → F true { s with heap := h' } := fun h' b R' => by
      have q := k h' true b
      rw [if_neg sx] at q
      rw [sz1] at R'
      exact q R'
    have few1 : r1.size < scanBound := by omega
    refine wpAny_bind (gv _ _ _ ?_)
    split
    · refine wpAny_bind ?_
      rw [hashByValue_scannable 8 scn]
      refine wpAny_pure ?_
      refine setS_tail (fun b s1 G q => gv b s1 G q) at_ ex dt rows1 nod1 mem1 few1 ?_ ?_ ?_ fun h' b R' => wpAny_pure (fin h' b R')
      · split
        · exact f1
        · exact SetTable.fits_plain_off f1
      · split <;> exact s1
      · split <;> exact ld1
    · refine wpAny_bind (wpAny_pure ?_)
      rw [if_pos rfl]
      exact setS_tail (fun b s1 G q => gv b s1 G q) at_ ex dt rows1 nod1 mem1 few1 f1 s1 ld1 fun h' b R' => wpAny_pure (fin h' b R')
end
end Oo
set_option Elab.async false
set_option linter.all false
set_option maxRecDepth 100000
set_option maxHeartbeats 3200000
namespace Oo
open PySem PySem.Spec PyProof.Rows L2 PySem.W PyProof
section
variable {P : Program} {w : World} {A : Around} {E : Value → Shared → Prop} {s : Shared}
theorem setS_new {h : Heap} {a : Addr} (at_ : h.get? a = some (eSet w)) : SetS w h a (fun _ => false) 0 := by
  refine ⟨_, #[], 0, _, at_, ⟨⟨rfl, rfl, rfl⟩, rfl⟩, (fun e he => by simp at he), ⟨by simp, fun y => by simp⟩, ⟨rfl, by decide⟩, rfl, List.Pairwise.nil, ?_⟩
  show _ ∨ (!w.params.followText "set-order") = true
  rcases w.params.followText "set-order" with _ | _
  · exact .inr rfl
  · exact .inl rfl
theorem loopS {I : Addr} {fp wr : List Addr} {G : Array GenState → Array GenState → Prop} {m : Nat} {Pv : Nat → Value → Prop} {St : Nat → Shared → Prop} {R : Result → Shared → Prop} (W : WalksS P w A.in1 I fp wr G m Pv St) (a : Addr) (na : a ∉ fp) (xs : List Str) (em : m = xs.length) (few : m + 1 < scanBound)
    (val : ∀ i v, Pv i v → ∃ x t, xs[i]? = some x ∧ v = .str x t) : ∀ (left i : Nat) (s : Shared), i + left = m → St i s → (∃ c, c ≤ i ∧ SetS w s.heap a (fun y => decide (y ∈ xs.take i)) c) →
      (∀ s' c, Moved (a :: wr) G s s' → c ≤ m → SetS w s'.heap a (fun y => decide (y ∈ xs)) c → R (.ok (.ret .none)) s') → codeAny (model P w) A (.builtin "set.update.loop" ⟨[.ref a, .ref I], []⟩) R s := by
  have nw : a ∉ wr := fun z => na (W.sub _ z)
  have up : ∀ b ∈ wr, b ∈ a :: wr := fun b z => List.mem_cons_of_mem _ z
  intro left
  induction left with
  | zero =>
    rintro i s ei st ⟨c, hc, hS⟩ k
    obtain rfl : i = m := by omega
    refine codeAny_builtin F.entry_set_update_loop ?_
    rw [Around.under_plainId F.plain_set_update_loop _]
    show wpAny _ A.in1 (pyNext (.ref I) >>= _) _ _ s
    refine wpAny_bind (W.done s _ _ st fun s' hm => wpAny_pure (k s' c (hm.mono up) hc ?_))
    have e : xs.take i = xs := List.take_of_length_le (by omega)
    rw [e] at hS
    exact hS.kept fun o q => hm.heap a o nw q
  | succ left ih =>
    rintro i s ei st ⟨c, hc, hS⟩ k
    refine codeAny_builtin F.entry_set_update_loop ?_
    rw [Around.under_plainId F.plain_set_update_loop _]
    show wpAny _ A.in1 (pyNext (.ref I) >>= _) _ _ s
    refine wpAny_bind (W.item i s _ _ (by omega) st fun v s1 hv st1 hm => ?_)
    obtain ⟨x, t, hx, rfl⟩ := val i v hv
    have hS1 : SetS w s1.heap a (fun y => decide (y ∈ xs.take i)) c := hS.kept fun o q => hm.heap a o nw q
    show wpAny _ A.in1 (holding [Value.str x t] (setAdd a (.str x t)) >>= _) _ _ s1
    refine wpAny_bind (wpAny_holding ?_)
    unfold setAdd
    refine wpAny_holding (wpAny_bind ((sK P w).pyHash (k := x) (strKind_is _ _ _ _) (setS_add (s := { s1 with toks := s1.toks + 1 }) hS1 (by omega) fun h' b but hS2 => ?_)))
    have hS3 : SetS w h' a (fun y => decide (y ∈ xs.take (i + 1))) (if decide (x ∈ xs.take i) = true then c else c + 1) := hS2.to fun y => by
      rw [List.take_add_one, hx]
      simp [List.mem_append]
    have hc3 : (if decide (x ∈ xs.take i) = true then c else c + 1) ≤ i + 1 := by
      split <;> omega
    refine wpAny_pure ⟨plainId_quiet F.plain_set_update_loop _, ih (i + 1) _ (by omega) (W.frame _ s1 _ _ st1 (Nat.le_succ _) fun c hc o q => ?_) ⟨_, hc3, hS3⟩ fun s2 c2 hm2 hc2 hS4 => ?_⟩
    · have : c ≠ a := fun z => na (z ▸ hc)
      rw [but.2 c this]
      exact q
    · refine k s2 c2 (Moved.trans W.gtrans ((hm.mono up).then_heap (Nat.le_succ _) fun c o hc q => ?_) hm2) hc2 hS4
      have : c ≠ a := fun z => hc (by rw [z]; exact List.mem_cons_self)
      rw [but.2 c this]
      exact q
/-- set(xs) -/
theorem set_strs {l : Addr} {items : Array Value} (xs : List Str) {Q : Value → Shared → Prop} (hh : A.handled = none) (hl : s.heap.IsList l items) (hit : StrsAre items.toList xs) (hb : xs.length + 1 < scanBound)
    (k : ∀ (h' : Heap) (tk c : Nat), SetS w h' s.heap.objs.size (fun y => decide (y ∈ xs)) c → c ≤ xs.length → (∀ b o, s.heap.get? b = some o → h'.get? b = some o) → Q (.ref s.heap.objs.size) { s with heap := h', toks := tk }) :
    wpAny (model P w) A (call (.type "set") [.ref l]) Q E s := by
  have sz : items.size = xs.length := by
    have q := StrsAre.length hit
    rw [Array.length_toList] at q
    exact q
  refine call_two F.called_set (F.typeCall_set_1 (.ref l)) (code_set_led1 (.ref l) (Q₁ := fun obj s₁ => obj = .ref s.heap.objs.size ∧ s₁ = { s with heap := s.heap.push (eSet w) }) ⟨rfl, rfl⟩) fun obj s₁ ⟨e1, e2⟩ => ?_
  subst e1 e2
  have at0 : (s.heap.push (eSet w)).get? s.heap.objs.size = some (eSet w) := Heap.get?_push_size _ rfl
  have size1 : (s.heap.push (eSet w)).objs.size = s.heap.objs.size + 1 := Heap.size_push ..
  obtain ⟨ol, hol, hcl, nl, hdl⟩ := id hl
  have low : l < s.heap.objs.size := Heap.lt_size hol
  have hl1 : (s.heap.push (eSet w)).IsList l items := hl.push _
  refine ⟨⟨_, at0, rfl⟩, ?_⟩
  refine codeAny_mono (codeAny_call_builtin (R := wants (fun r s₂ => r = .none ∧ Q (.ref s.heap.objs.size) s₂) E) F.called_set.init.plain F.entry_set_init (check_set_init_1 ⟨_, at0, rfl⟩ ?_)) fun r s₂ hr => hr
  obtain ⟨ocls, od, odt, osl⟩ := ol
  simp only at hcl hdl
  subst hcl
  subst hdl
  have hol1 := Heap.get?_push_of_some (eSet w) hol
  have e1 := F.sub_list_set
  have e2 := F.sub_list_frozenset
  have e3 : (Value.type "list" == Value.type "dict") = false := by decide
  unfold Builtin.«set.__init__» noKeywords Builtin.Frozenset.updateFrom
  generalize hPI : pyIter = PI
  wp_walk
  subst hPI
  refine wpAny_pyIter_list hl1 ?_
  refine wpAny_bind (wpAny_runValue ?_)
  have h3 : A.in1.in1.in1.handled = none := by simp [hh]
  have nI : l ≠ (s.heap.push (eSet w)).objs.size := fun z => by
    have z : l = s.heap.objs.size + 1 := z.trans size1
    exact absurd low (by rw [z]; exact Nat.not_lt.mpr (Nat.le_succ _))
  have out : s.heap.objs.size ∉ [(s.heap.push (eSet w)).objs.size, l] := fun z => by
    rcases List.mem_cons.mp z with z | z
    · have z : s.heap.objs.size = s.heap.objs.size + 1 := z.trans size1
      exact absurd z (Nat.ne_of_lt (Nat.lt_succ_self _))
    · have z := List.mem_singleton.mp z
      exact absurd low (by rw [← z]; exact Nat.lt_irrefl _)
  have val : ∀ (i : Nat) (v : Value), items[i]? = some v → ∃ x t, xs[i]? = some x ∧ v = .str x t := fun i v hv => by
    have hv2 : items.toList[i]? = some v := by rw [Array.getElem?_toList]; exact hv
    have li : i < xs.length := by rw [← sz]; exact (Array.getElem?_eq_some_iff.mp hv).1
    obtain ⟨t, e⟩ := SS.strs_at hit i v hv2
    exact ⟨_, t, by rw [List.getElem?_eq_getElem li], by rw [e, List.getD_eq_getElem?_getD, List.getElem?_eq_getElem li]; rfl⟩
  refine loopS ((Walks.list h3 _ l nI items).toS) s.heap.objs.size out xs sz (by omega) val items.size 0 _ (Nat.zero_add _) ⟨⟨_, Heap.get?_push_size _ rfl, rfl, rfl⟩, hl1.push _⟩ ⟨0, Nat.le_refl 0, (setS_new (Heap.get?_push_of_some _ at0)).to fun y => by simp⟩ fun s' c' hm hc' hS' => ?_
  obtain ⟨h', g2, d', tk', os'⟩ := s'
  obtain rfl : g2 = s.gens := hm.gens
  obtain rfl : d' = s.drawn := hm.drawn
  obtain rfl : os' = s.os := hm.os
  show wpAny _ _ _ _ _ _
  refine wpAny_pure ?_
  show wpAny _ _ (ret Value.none) _ _ _
  refine wpAny_pure ⟨rfl, k h' tk' c' hS' (by rw [← sz]; exact hc') fun b o e => ?_⟩
  have hb0 : b < s.heap.objs.size := Heap.lt_size e
  refine hm.heap b o (fun z => ?_) (Heap.get?_push_of_some _ (Heap.get?_push_of_some _ e))
  rcases List.mem_cons.mp z with z | z
  · exact absurd z (Nat.ne_of_lt hb0)
  · have z : b = s.heap.objs.size + 1 := (List.mem_singleton.mp z).trans size1
    exact absurd hb0 (by rw [z]; exact Nat.not_lt.mpr (Nat.le_succ _))
/-- sorted of it -/
theorem sorted_setS {a : Addr} {S : Str → Bool} {n : Nat} {Q : Value → Shared → Prop} (R : SetS w s.heap a S n) (hh : A.handled = none) (few : n < 64)
    (k : ∀ s' p (out : Array Value) (c : Nat) (ys : List Str), (∀ b o, s.heap.get? b = some o → s'.heap.get? b = some o) → s'.gens = s.gens ∧ s'.os = s.os → s.heap.objs.size ≤ p →
      s'.heap.get? p = some (seqObj "list" out c) → StrsAre out.toList ys → sortedS ys = true ∧ ys.Nodup → (∀ y, y ∈ ys ↔ S y = true) → ys.length = n → Q (.ref p) s') :
    wpAny (model P w) A (call (.builtin "sorted") [.ref a]) Q E s := by
  obtain ⟨o, r, ep, u, at_, ⟨ex, dt⟩, rows, ⟨nod, mem⟩, ⟨sz, fewS⟩, ft, rs, ld⟩ := R
  refine Calls.call_function_entry kind_sorted plain_sorted entry_sorted (args_sorted1 _) ?_
  unfold Builtin.«sorted»
  refine wpAny_bind (m := checkCount "sorted" 1 1 _) (wpAny_pure (wpAny_bind (collect_set (A := A.in1) hh ⟨o, at_, ex.1, dt⟩ ft fewS rs ld fun s1 vs k1 z1 g1 o1 pm => ?_)))
  have lv : vs.length = n := by
    have e : vs.length = r.size := by rw [pm.length_eq, List.length_map, Array.length_toList]
    exact e.trans sz
  have all : ∀ v ∈ vs, ∃ x t, v = Value.str x t := fun v hv => by
    obtain ⟨e, he, q⟩ := List.mem_map.mp (pm.mem_iff.mp hv)
    obtain ⟨x, t, rfl⟩ := rows e he
    exact ⟨x, t, q.symm⟩
  have st : StrsAre vs (vs.map PyProof.Rows.strOf) := strsAre_map vs all
  have pk : (vs.map PyProof.Rows.strOf).Perm (r.toList.map sKey) := by
    have q := pm.map PyProof.Rows.strOf
    rw [List.map_map] at q
    have e : r.toList.map (PyProof.Rows.strOf ∘ fun x => x.2) = r.toList.map sKey := List.map_congr_left fun e he => by
      obtain ⟨x, t, rfl⟩ := rows e he
      rfl
    exact e ▸ q
  refine wpAny_bind (wpAny_newList ?_ (by rw [lv, sizeLine_eq]; omega))
  have atL : (s1.heap.push (seqObj "list" vs.toArray 0)).get? s1.heap.objs.size = some (seqObj "list" vs.toArray 0) := Heap.get?_push_size _ rfl
  refine wpAny_bind (wpAny_holding (wpAny_call_entry slot_list_sort ⟨_, atL, rfl⟩ entry_list_sort (list_sort_treeK PyProof.Rows.strKind_oneLt atL st.keysOf (fun _ _ _ e => keyKind_strs (by rw [← e]; exact st)) (by omega) fun st' hp hs => ⟨_, rfl, ?_⟩) (args_list_sort _)))
  obtain ⟨ys, y1, y2, y3⟩ := sorted_out_str st hp hs
  obtain ⟨c, hc⟩ := sortedHeap_at (vs := vs) (out := (arrOf st').map (·.2)) atL
  have py : ys.Perm (r.toList.map sKey) := y2.trans pk
  refine wpAny_pure ⟨_, rfl, k _ s1.heap.objs.size _ c ys (fun b o' q => ?_) ⟨g1, o1⟩ z1 hc y1 ⟨y3, py.nodup_iff.mpr nod⟩ (fun y => by rw [py.mem_iff, ← mem y]) ?_⟩
  · have q1 := k1 b o' q
    have lt1 := Heap.lt_size q1
    show (sortedHeap (s1.heap.push (seqObj "list" vs.toArray 0)) s1.heap.objs.size vs _).get? b = some o'
    rw [sortedHeap_old (Nat.ne_of_lt lt1) (by rw [size_push']; exact Nat.lt_succ_of_lt lt1)]
    exact Heap.get?_push_of_some _ q1
  · have e : ys.length = r.size := by rw [py.length_eq, List.length_map, Array.length_toList]
    exact e.trans sz
end
/-- the set of texts at a, as the layer holds it -/
def SetSO (w : World) (a : Addr) (S : Str → Bool) (n : Nat) : HO := .ext fun h => SetS w h a S n
section
variable {X : Cx}
theorem setSO_new {w : World} {P : Program} {H : Hp} {h : Heap} {a : Addr} {S : Str → Bool} {n : Nat} (R : SetS w h a S n) : ObjOk P w H h a (SetSO w a S n) :=
  ⟨R, ⟨R.choose, by obtain ⟨_, _, _, z, _⟩ := R.choose_spec; exact z⟩, fun _ _ p k => p.kept k⟩
def rSetStr (X : Cx) : List V → Hp → VK → Prop := fun xs H Q => ∃ (l : Addr) (ys : List Str), xs = [.ref l] ∧ SqL X.K H l (ys.map V.str) ∧ ys.length ≤ 60 ∧ ∀ (a : Addr) (n : Nat), H a = none → n ≤ ys.length → Q (.ref a) (upd H a (SetSO X.w a (fun y => decide (y ∈ ys)) n))
theorem call_setStr (hc : X.calm = true) : CallR X (.type "set") (rSetStr X) := by
  intro pins s σ H xs us Q I r h
  obtain ⟨l, ys, rfl, hs, hn, q⟩ := h
  obtain ⟨u, rfl, ru⟩ := vals1 r
  obtain rfl : u = Value.ref l := ru
  obtain ⟨its, rv, hl, hz⟩ := I.list hs
  refine set_strs ys (I.ok.hd hc) hl.isList (by simpa using rv.strs) (by unfold scanBound; omega) fun h' tk c R le k => ?_
  exact ⟨.ref _, upd H s.heap.objs.size (SetSO X.w s.heap.objs.size (fun y => decide (y ∈ ys)) c), I.laid (t' := tk) (fun b u e => k b u e) (Nat.le_refl _) (setSO_new R), rfl, q _ _ (I.hok.fresh (Nat.le_refl _)) le⟩
def rSortedSetS (w : World) : List V → Hp → VK → Prop := fun vs H Q => ∃ (a : Addr) (S : Str → Bool) (n : Nat), vs = [V.ref a] ∧ H a = some (SetSO w a S n) ∧ n < 64 ∧
  ∀ (ys : List Str) (p : Addr), sortedS ys = true ∧ ys.Nodup → (∀ y, y ∈ ys ↔ S y = true) → ys.length = n → H p = none → Q (.ref p) (upd H p (.lst (ys.map V.str)))
theorem cr_sortedSetS (hc : X.calm = true) : CallR X (.builtin "sorted") (rSortedSetS X.w) := by
  intro pins s σ H vs us Q I r h
  obtain ⟨a, S, n, rfl, ha, few, q⟩ := h
  have R : SetS X.w s.heap a S n := (I.hok a _ ha).1
  rw [Vals.ref1 r]
  refine sorted_setS R (I.ok.hd hc) few fun s' p out c ys k g hp at_ st so mem len => ?_
  obtain ⟨h', g2, d', tk', os'⟩ := s'
  obtain ⟨e1, e2⟩ := g
  have e1 : g2 = s.gens := e1
  have e2 : os' = s.os := e2
  have hz : (ys.map V.str).length ≤ sizeLine := by rw [List.length_map, len, sizeLine_eq]; omega
  have np : H p = none := I.hok.fresh hp
  have J : Inv X pins σ (upd H p (.lst (ys.map V.str))) { s with heap := h', gens := g2, drawn := d', toks := tk' } :=
    I.call (ch := []) (Un.laid k hp np) (I.hok.laid k hp ⟨hz, out.toList, c, vals_of_strs st, at_⟩) (by rw [e1]; exact I.bare) (fun _ z => nomatch z)
  subst e2
  exact ⟨.ref p, _, J, rfl, q ys p so mem len np⟩
end
end Oo
set_option Elab.async false
set_option linter.all false
set_option maxRecDepth 100000
set_option maxHeartbeats 4000000
/-! law: the pieces. -/
namespace K8
open PySem PySem.Spec PyProof.Rows L2 RV EV He EF EI LamX
def FlV (v : V) : Prop := (∃ i, v = .int i) ∨ (∃ b, v = .bl b) ∨ ∃ s, v = .str s ∧ PyData.strOk s = true
def dF (v : V) : PyData := match v with
  | .int i => .int i
  | .bl b => .bool b
  | .str s => .str s
  | _ => .none
theorem fl_dp1 {K : PySem.W.Frag} {H : Hp} {v : V} (h : FlV v) : Dp K H v (dF v) := by
  rcases h with ⟨i, rfl⟩ | ⟨b, rfl⟩ | ⟨s, rfl, _⟩
  · exact .int _
  · exact .bl _
  · exact .str _
theorem fl_dp {K : PySem.W.Frag} {H : Hp} : ∀ {vs : List V}, (∀ v ∈ vs, FlV v) → DpAll K H vs (vs.map dF)
  | [], _ => .nil
  | v :: vs, h => .cons (fl_dp1 (h v (List.mem_cons_self ..))) (fl_dp fun u hu => h u (List.mem_cons_of_mem _ hu))
theorem fl_lay : ∀ {vs : List V}, (∀ v ∈ vs, FlV v) → PyData.canLayAll0 (vs.map dF) = true ∧ PyData.depthAll (vs.map dF) = 0 ∧ PyData.eqvAll (vs.map dF) (vs.map dF) = true
  | [], _ => ⟨by simp only [List.map_nil, PyData.canLayAll0], by simp only [List.map_nil, PyData.depthAll], by simp only [List.map_nil, PyData.eqvAll]⟩
  | v :: vs, h => by
    obtain ⟨a, b, c⟩ := fl_lay (vs := vs) fun u hu => h u (List.mem_cons_of_mem _ hu)
    have d : PyData.canLay0 (dF v) = true ∧ (dF v).depth = 0 ∧ PyData.eqv (dF v) (dF v) = true := by
      rcases h v (List.mem_cons_self ..) with ⟨i, rfl⟩ | ⟨b, rfl⟩ | ⟨s, rfl, hs⟩
      · simp [dF, PyData.canLay0, PyData.depth, PyData.eqv]
      · simp [dF, PyData.canLay0, PyData.depth, PyData.eqv]
      · simp [dF, PyData.canLay0, PyData.depth, PyData.eqv, hs]
    obtain ⟨d1, d2, d3⟩ := d
    simp only [List.map_cons, PyData.canLayAll0, PyData.depthAll, PyData.eqvAll, a, b, c, d1, d2, d3]
    exact ⟨rfl, rfl, rfl⟩
theorem fl_tx {v : V} (h : TxW v) : FlV v := by
  rcases h with ⟨x, rfl, f⟩ | ⟨i, rfl, _⟩
  · exact .inr (.inr ⟨x, rfl, fix_ok f.1⟩)
  · exact .inl ⟨i, rfl⟩
def IsKs (K : PySem.W.Frag) : V → Hp → Prop := fun v _ => ∃ a, v = .ref a ∧ ∀ H', SqT K H' a (kindsL.map V.str)
theorem stb_ks {K : PySem.W.Frag} : Stb (IsKs K) := fun _ _ _ _ h => h
theorem kinds_ok : ∀ x ∈ kindsL, PyData.strOk x = true := by decide +kernel
section
variable {K : PySem.W.Frag} {σ : L2.St} {H : Hp} {ta tb te : TE} {vs xs ys : List V} {a b : Str} {ss : List Str}
theorem t_neRL (fl : ∀ v ∈ vs, FlV v) (ha : ER ta σ H (AtL vs)) (hb : ER tb σ H (AtL vs)) : TestR (tTest (tOp (rNeD K) ta tb)) σ H false := ER.test (ha.op stb_l hb fun u v H1 F s ⟨r, e1, h1⟩ ⟨q, e2, h2⟩ k => by
  obtain rfl := e1
  obtain rfl := e2
  obtain ⟨c1, c2, c3⟩ := fl_lay fl
  have sh : SeqAt.shaped (.list (vs.map dF)) = true := by simp [SeqAt.shaped, PyData.canLay0, PyData.depth, c1, c2]
  refine ⟨_, _, .lst (SqL.of h1) (fl_dp fl), .lst (SqL.of h2) (fl_dp fl), sh, sh, ?_⟩
  rw [show PyData.eqv (.list (vs.map dF)) (.list (vs.map dF)) = true from c3]
  exact k _ H1 same_rfl rfl)
theorem t_neRT (fl : ∀ v ∈ vs, FlV v) (ha : ER ta σ H (AtT vs)) (hb : ER tb σ H (AtT vs)) : TestR (tTest (tOp (rNeD K) ta tb)) σ H false := ER.test (ha.op stb_t hb fun u v H1 F s ⟨r, e1, h1⟩ ⟨q, e2, h2⟩ k => by
  obtain rfl := e1
  obtain rfl := e2
  obtain ⟨c1, c2, c3⟩ := fl_lay fl
  have sh : SeqAt.shaped (.tuple (vs.map dF)) = true := by simp [SeqAt.shaped, PyData.canLay0, PyData.depth, c1, c2]
  refine ⟨_, _, .tup (SqT.of h1) (fl_dp fl), .tup (SqT.of h2) (fl_dp fl), sh, sh, ?_⟩
  rw [show PyData.eqv (.tuple (vs.map dF)) (.tuple (vs.map dF)) = true from c3]
  exact k _ H1 same_rfl rfl)
theorem t_neK (ha : ER ta σ H (IsKs K)) (hb : ER tb σ H (AtT (kindsL.map V.str))) : TestR (tTest (tOp (rNeD K) ta tb)) σ H false := ER.test (ha.op stb_ks hb fun u v H1 F s ⟨r, e1, h1⟩ ⟨q, e2, h2⟩ k => by
  obtain rfl := e1
  obtain rfl := e2
  refine neT (h1 H1) (SqT.of h2) kinds_ok kinds_ok ?_
  rw [decide_eq_true rfl]
  exact k _ H1 same_rfl rfl)
theorem er_eqK (ha : ER ta σ H (IsKs K)) (hb : ER tb σ H (AtT (kindsL.map V.str))) : ER (tOp (rEqD K) ta tb) σ H (IsV (.bl true)) := ha.op stb_ks hb fun u v H1 F s ⟨r, e1, h1⟩ ⟨q, e2, h2⟩ k => by
  obtain rfl := e1
  obtain rfl := e2
  refine eqT (h1 H1) (SqT.of h2) kinds_ok kinds_ok ?_
  rw [decide_eq_true rfl]
  exact k _ H1 same_rfl rfl
theorem er_catT (hx : xs ≠ []) (hy : ys ≠ []) (hz : xs.length + ys.length ≤ 1000) (ha : ER ta σ H (AtT xs)) (hb : ER tb σ H (AtT ys)) : ER (tOp (rCatT K) ta tb) σ H (AtT (xs ++ ys)) := ha.op stb_t hb fun u v H1 F s ⟨r, e1, h1⟩ ⟨q, e2, h2⟩ k =>
  ⟨r, q, xs, ys, e1, e2, SqT.of h1, SqT.of h2, hx, by rw [sizeLine_eq]; omega, fun z => absurd z hy, fun _ p np => k _ _ (same_new np) ⟨p, rfl, upd_same⟩⟩
theorem er_tupS (ss : List Str) (hz : ss.length ≤ 1000) : ER (tTup (tStrs ss)) σ H (AtT (ss.map V.str)) := fun H1 s1 F k => strs_run ⟨by rw [List.length_map, sizeLine_eq]; omega, fun q nq => k _ _ (same_new nq) ⟨q, rfl, upd_same⟩⟩
theorem t_neS (ha : ER ta σ H (IsV (.str a))) (hb : ER tb σ H (IsV (.str b))) (e : a = b) : TestR (tTest (tOp rNe ta tb)) σ H false := ER.test (ha.op stb_v hb fun u v H1 F s e1 e2 k => by
  obtain rfl := e1
  obtain rfl := e2
  subst e
  refine ⟨rfl, ?_⟩
  rw [decide_eq_true rfl]
  exact k _ H1 same_rfl rfl)
theorem t_notE (h : ER te σ H (IsV (.bl true))) : TestR (tNot (tB te)) σ H false := fun H1 s1 F k => h H1 s1 _ fun v H2 s2 e => by
  obtain rfl := e
  exact ⟨true, rfl, k H2 s2⟩
theorem er_tup2 {A B : V → Hp → Prop} (sa : Stb A) (ha : ER ta σ H A) (hb : ER tb σ H B) : ER (tTup (tCons ta (tCons tb tNil))) σ H (fun v H' => ∃ t x y, v = .ref t ∧ H' t = some (.tup [x, y]) ∧ ∃ H0, Same H0 H' ∧ A x H0 ∧ B y H0) := fun H1 s1 F q => ha H1 s1 _ fun u H2 s2 h1 => hb H2 (s1.trans s2) _ fun v H3 s3 h2 =>
  ⟨by show 2 ≤ sizeLine; rw [sizeLine_eq]; decide, fun p np => q _ _ ((s2.trans s3).trans (same_new np)) ⟨p, u, v, rfl, upd_same, H3, same_new np, sa _ _ _ s3 h1, h2⟩⟩
end
section
variable {P : Program} {w : World} {K : PySem.W.Frag} {mg : Str → Option Value} {base : Heap} {σ : L2.St} {H : Hp} {ta tb te : TE} {tk : TA} {k : Kd} {ns : List V} {up : V}
theorem ks_k (T : KF P w K mg base) (k : Kd) : ∃ a, Con K (ga K k.cls) "KINDS" (.ref a) (.ref a) ∧ ∀ H, SqT K H a (kindsL.map V.str) := by
  obtain ⟨⟨a, cv, hs⟩, _⟩ := deed_facts T
  obtain ⟨_, z⟩ := ba T.nb8
  obtain ⟨_, z⟩ := ba z
  obtain ⟨_, z⟩ := ba z
  obtain ⟨_, z⟩ := ba z
  obtain ⟨_, z⟩ := ba z
  obtain ⟨_, z⟩ := ba z
  obtain ⟨zk, _⟩ := ba z
  unfold ksB at zk
  split at zk
  · rename_i b e
    obtain ⟨h1, h2⟩ := ba zk
    have e2 := e.symm.trans cv.1
    cases e2
    exact ⟨a, ⟨eqO_ok (List.all_eq_true.mp h2 _ k.kn), rfl, eqO_ok h1, by decide +kernel⟩, hs⟩
  · cases zk
theorem er_ks (T : KF P w K mg base) (h : ER te σ H (IsG K k ns up)) : ER (tCon K te "KINDS") σ H (IsKs K) := fun H1 s1 F q => h H1 s1 _ fun u H2 s2 ⟨a, e, hd⟩ => by
  obtain ⟨dx, fs, ha, hl⟩ := gd_fld hd (m := "KINDS") (by decide)
  obtain ⟨b, c, hs⟩ := ks_k T k
  exact ⟨a, _, dx, fs, _, _, e, ha, kcls T k, c, hl, q _ H2 s2 ⟨b, rfl, hs⟩⟩
theorem er_kd (T : KF P w K mg base) (h : ER te σ H (IsG K k ns up)) : ER (tCon K te "KIND") σ H (IsV (.str k.word)) := fun H1 s1 F q => h H1 s1 _ fun u H2 s2 ⟨a, e, hd⟩ => by
  obtain ⟨dx, fs, ha, hl⟩ := gd_fld hd (m := "KIND") (by decide)
  obtain ⟨t, c⟩ := kcon T k
  exact ⟨a, _, dx, fs, _, _, e, ha, kcls T k, c, hl, q _ H2 s2 rfl⟩
theorem er_ksC (T : KF P w K mg base) : ER (ClX.tCVal K (tC (.ref (gD K))) "KINDS") σ H (IsKs K) := fun H1 s1 F q => by
  obtain ⟨⟨a, cv, hs⟩, _, cr⟩ := deed_facts T
  exact ⟨_, _, _, _, rfl, cr, cv, q _ H1 same_rfl ⟨a, rfl, hs⟩⟩
theorem dTx_len (ok : DOk k ns up) : (dTx k ns up).length ≤ 800 := by
  obtain ⟨h1, h2, _⟩ := deed_words ok
  exact (joined (fun y hy => (h1 y hy).1) (by omega)).2.2
theorem rd_go (ok : DOk k ns up) {H : Hp} {F : VK} (q : ∀ u H', Same H H' → IsG K k ns up u H' → F u H') : spRd K [.str (dTx k ns up)] H F E0 := by
  refine ⟨_, rfl, .inl ⟨_, rfl, by have := dTx_len ok; omega, ?_, fun k' ns' up' er a H' s' hd => ?_, fun i ei => ?_⟩⟩
  · rw [split_deed ok]
    have := (deed_words ok).2.1
    omega
  · rw [split_deed ok, read_back ok] at er
    cases er
    exact q _ H' s' ⟨a, rfl, hd, ok⟩
  · rw [split_deed ok, read_back ok] at ei
    cases ei
theorem er_read (ok : DOk k ns up) (h : ER te σ H (IsV (.str (dTx k ns up)))) : ER (Oo.tSMeth (gD K) (spRd K) E0 (tC (.ref (gD K))) (tCons te tNil)) σ H (IsG K k ns up) := fun H1 s1 F q => ⟨rfl, h H1 s1 _ fun u H2 s2 e => by
  obtain rfl := e
  exact rd_go ok fun u H' s' g => q u H' (s2.trans s') g⟩
theorem er_isG (T : KF P w K mg base) {d : Str} {b : Bool} (hd : d ∈ midL) (hb : k.ups.contains d = b) (h : ER te σ H (IsG K k ns up)) : ER (tCB (rIsi K) (tCons te (tCons (tC (.ref (ga K d))) tNil))) σ H (IsV (.bl b)) := fun H1 s1 F q => h H1 s1 _ fun u H2 s2 ⟨a, e, g⟩ => by
  obtain rfl := e
  exact ⟨_, _, _, _, _, rfl, .own _, kd_ty T g.at_, (kd_kit T k hd).trans (congrArg some hb), q _ H2 s2 rfl⟩
theorem er_repr {ds : List PyData} (sh : ShD (.list ds)) (h : ER te σ H (IsDt (.list ds))) : ER (tCB RV.rRepr (tCons te tNil)) σ H (IsV (.str (PyData.list ds).shown)) := fun H1 s1 F q => h H1 s1 _ fun u H2 s2 e => by
  obtain ⟨a, rfl⟩ : ∃ a, u = .ref a := by
    cases (show Dat H2 u (.list ds) from e)
    exact ⟨_, rfl⟩
  exact ⟨a, _, rfl, e, sh.1, sh.2.1, sh.2.2, q _ H2 s2 rfl⟩
theorem kpD_list (k : Kd) (ns : List V) (up : V) : ∃ ds, kpD k ns up = .list ds := by
  unfold kpD
  cases k.shp <;> exact ⟨_, rfl⟩
end
end K8
set_option Elab.async false
set_option linter.all false
set_option maxRecDepth 100000
set_option maxHeartbeats 4000000
/-! law: the lots. -/
namespace K8
open PySem PySem.Spec PyProof.Rows L2 RV EV He EF EI LamX
theorem lined_le : ∀ l : List Str, (lined l).length ≤ l.length
  | [] => Nat.le_refl _
  | x :: r => by
    show (insS x (lined r)).length ≤ _
    have := ins_len (x := x) (lined r)
    have := lined_le r
    simp only [List.length_cons]
    omega
theorem isg_w {K : PySem.W.Frag} {k : Kd} {ns : List V} {up v : V} {H H' : Hp} {p : Addr} {xs : List V} (h : IsG K k ns up v H) (hp : H p = some (.lst xs)) (s : SameW H H' p) : IsG K k ns up v H' := by
  obtain ⟨a, e, ⟨dx, fs, ha, sh⟩, ok⟩ := h
  have na : a ≠ p := fun z => by rw [z, hp] at ha; cases ha
  refine ⟨a, e, ⟨dx, fs, s _ _ na ha, ?_⟩, ok⟩
  generalize k.shp = hs at sh ⊢
  cases hs with
  | pl gs => exact sh
  | mg => exact sh
  | many f =>
    obtain ⟨t, ht, hf⟩ := sh
    have nt : t ≠ p := fun z => by rw [z, hp] at ht; cases ht
    exact ⟨t, s _ _ nt ht, hf⟩
theorem dat_w {k : Kd} {ns : List V} {up v : V} {H H' : Hp} {p : Addr} {xs : List V} (h : DAt H v k ns up) (hp : H p = some (.lst xs)) (s : SameW H H' p) : DAt H' v k ns up := by
  obtain ⟨A, ys, e, hA, sh⟩ := h
  have na : A ≠ p := fun z => by rw [z, hp] at hA; cases hA
  refine ⟨A, ys, e, s _ _ na hA, ?_⟩
  generalize k.shp = hs at sh ⊢
  cases hs with
  | pl gs => exact sh
  | mg => exact sh
  | many f =>
    obtain ⟨t, he, ht⟩ := sh
    have nt : t ≠ p := fun z => by rw [z, hp] at ht; cases ht
    exact ⟨t, he, s _ _ nt ht⟩
theorem dat_s {k : Kd} {ns : List V} {up v : V} {H H' : Hp} (h : DAt H v k ns up) (s : Same H H') : DAt H' v k ns up := by
  obtain ⟨A, ys, e, hA, sh⟩ := h
  refine ⟨A, ys, e, s _ _ hA, ?_⟩
  generalize k.shp = hs at sh ⊢
  cases hs with
  | pl gs => exact sh
  | mg => exact sh
  | many f =>
    obtain ⟨t, he, ht⟩ := sh
    exact ⟨t, he, s _ _ ht⟩
theorem att_w {ys : List V} {v : V} {H H' : Hp} {p : Addr} {xs : List V} (h : AtT ys v H) (hp : H p = some (.lst xs)) (s : SameW H H' p) : AtT ys v H' := by
  obtain ⟨a, e, ha⟩ := h
  exact ⟨a, e, s _ _ (fun z => by rw [z, hp] at ha; cases ha) ha⟩
/-! the own fixes of a lot -/
theorem of_x {kd : Kd} {z : Str} {ns : List V} {up : V} (e : kd.word = z) (ok : DOk kd ns up) (c : decide (z ∈ (["fix", "unfix", "carry", "drop"] : List Str)) = true) : ∃ x r, ns = .str x :: r ∧ isFixB x = true ∧ sOf ns = [x] ∧ ∃ gs, kd.shp = .pl gs := by
  have hk : kd = .fix ∨ kd = .unfix ∨ kd = .carry ∨ kd = .drop := by
    subst e
    clear ok
    revert c
    cases kd <;> decide
  rcases hk with rfl | rfl | rfl | rfl
  · obtain ⟨⟨x, rfl, h, _⟩, _⟩ := ok; exact ⟨_, _, rfl, h, rfl, _, rfl⟩
  · obtain ⟨⟨x, rfl, h, _⟩, _⟩ := ok; exact ⟨_, _, rfl, h, rfl, _, rfl⟩
  · obtain ⟨⟨x, l, rfl, h, _⟩, _⟩ := ok; exact ⟨_, _, rfl, h.1, rfl, _, rfl⟩
  · obtain ⟨⟨x, l, rfl, h, _⟩, _⟩ := ok; exact ⟨_, _, rfl, h.1, rfl, _, rfl⟩
theorem sOf_ints (is : List Int) : sOf (is.map V.int) = [] := by
  unfold sOf
  have : (is.map V.int).filter isSV = [] := List.filter_eq_nil_iff.mpr fun v hv => by
    obtain ⟨i, _, rfl⟩ := List.mem_map.mp hv
    simp [isSV]
  rw [this]
  rfl
theorem of_n {kd : Kd} {z : Str} {ns : List V} {up : V} (e : kd.word = z) (ok : DOk kd ns up) (c : decide (z ∈ (["fix", "unfix", "carry", "drop"] : List Str)) = false) : sOf ns = [] := by
  have hk : (kd ≠ .fix ∧ kd ≠ .unfix) ∧ kd ≠ .carry ∧ kd ≠ .drop := by
    subst e
    clear ok
    refine ⟨⟨?_, ?_⟩, ?_, ?_⟩ <;> (rintro rfl; exact absurd c (by decide))
  obtain ⟨⟨h1, h2⟩, h3, h4⟩ := hk
  cases kd
  case fix => exact absurd rfl h1
  case unfix => exact absurd rfl h2
  case carry => exact absurd rfl h3
  case drop => exact absurd rfl h4
  case rise => obtain ⟨is, rfl, _⟩ := ok; exact sOf_ints is
  case night => obtain ⟨is, rfl, _⟩ := ok; exact sOf_ints is
  case renew => obtain ⟨is, rfl, _⟩ := ok; exact sOf_ints is
  case cut => obtain ⟨rfl, _⟩ := ok; rfl
  case try_ => obtain ⟨⟨l, m, rfl, _⟩, _⟩ := ok; rfl
  case probe => obtain ⟨⟨l, m, rfl, _⟩, _⟩ := ok; rfl
  case meet_ => obtain ⟨⟨l, m, rfl, _⟩, _⟩ := ok; rfl
  all_goals
    obtain ⟨⟨l, rfl, _⟩, _⟩ := ok
    rfl
theorem ofV_no {ns : List V} {ls : List Str} (h : sOf ns = []) : ofV ns ls = ls := by
  unfold ofV
  rw [h]
  exact List.filter_eq_self.mpr fun _ _ => rfl
theorem fil_one {x : Str} : ∀ {ls : List Str}, ls.Nodup → ls.filter (fun f => decide (f = x)) = if decide (x ∈ ls) = true then [x] else []
  | [], _ => rfl
  | y :: r, h => by
    obtain ⟨h1, h2⟩ := List.nodup_cons.mp h
    by_cases e : y = x
    · subst e
      rw [List.filter_cons_of_pos (by simp), fil_one h2, if_neg (by simpa using h1), if_pos (by simp)]
    · rw [List.filter_cons_of_neg (by simpa using e), fil_one h2]
      by_cases m : x ∈ r
      · rw [if_pos (by simpa using m), if_pos (by simpa using Or.inr m)]
      · rw [if_neg (by simpa using m), if_neg (by simpa using ⟨fun z => e z.symm, m⟩)]
theorem ofV_x {ns : List V} {ls : List Str} {x : Str} (h : sOf ns = [x]) (nd : ls.Nodup) : ofV ns ls = if decide (x ∈ ls) = true then [x] else [] := by
  rw [← fil_one nd]
  unfold ofV
  rw [h]
  refine List.filter_congr fun f _ => ?_
  show (false || decide (f ∈ [x])) = _
  rw [Bool.false_or]
  exact decide_eq_decide.mpr List.mem_singleton
def tOwV (K : PySem.W.Frag) (m : Str) (f : Kd → List V → List V) (te : TE) : TE := fun σ H Q => ∃ k : Kd, tMeth (ga K k.cls) m (spGv K k f) [] E0 te tNil σ H Q
def tOwF (K : PySem.W.Frag) (te : TE) (t : TA) : TE := fun σ H Q => ∃ k : Kd, tMeth (ga K k.cls) "own_fixes" (spFxs K k) [] E0 te t σ H Q
def tOwFK (K : PySem.W.Frag) (te : TE) (t : TA) : TE := fun σ H Q => ∃ k : Kd, Kw.tMethKw (ga K k.cls) "own_fixes" (spFxs K k) [0] 1 E0 te t σ H Q
section
variable {K : PySem.W.Frag} {σ : L2.St} {H : Hp} {te tl ta tb : TE} {k : Kd} {ns : List V} {up : V} {ls : List Str} {x : Str}
theorem er_owV {m : Str} {f : Kd → List V → List V} (hm : m ∉ fieldsL) (h : ER te σ H (IsG K k ns up)) : ER (tOwV K m f te) σ H (AtT (f k ns)) := fun H1 s1 F q => ⟨k, er_gv hm h H1 s1 F q⟩
theorem er_owF (h : ER te σ H (IsG K k ns up)) (hl : ER tl σ H (IsL K ls)) : ER (tOwF K te (tCons tl tNil)) σ H (AtT ((ofV ns ls).map V.str)) := fun H1 s1 F q => ⟨k, h H1 s1 _ fun u H2 s2 ⟨a, e, hd⟩ => by
  obtain rfl := e
  obtain ⟨dx, fs, ha, hlk⟩ := gd_fld hd (m := "own_fixes") (by decide)
  exact ⟨a, dx, fs, rfl, ha, hlk, hl H2 (s1.trans s2) _ fun l H3 s3 il => ⟨a, l, ns, up, ls, rfl, hd.same s3, il, fun t H' s' ht => q _ _ ((s2.trans s3).trans s') ⟨t, rfl, ht⟩⟩⟩⟩
theorem er_owFK (h : ER te σ H (IsG K k ns up)) (hl : ER tl σ H (IsL K ls)) : ER (tOwFK K te (tCons tl tNil)) σ H (AtT ((ofV ns ls).map V.str)) := fun H1 s1 F q => ⟨k, h H1 s1 _ fun u H2 s2 ⟨a, e, hd⟩ => by
  obtain rfl := e
  obtain ⟨dx, fs, ha, hlk⟩ := gd_fld hd (m := "own_fixes") (by decide)
  exact ⟨a, dx, fs, rfl, ha, hlk, hl H2 (s1.trans s2) _ fun l H3 s3 il => ⟨rfl, a, l, ns, up, ls, rfl, hd.same s3, il, fun t H' s' ht => q _ _ ((s2.trans s3).trans s') ⟨t, rfl, ht⟩⟩⟩⟩
theorem t_inO (ha : ER ta σ H (IsV (.str x))) (fx : isFixB x = true) (hb : ER tb σ H (IsL K ls)) : TestR (tTest (tOp (Oo.rInO (gO K) (fun b => b) (spCoL K) E0) ta tb)) σ H (decide (x ∈ ls)) := ER.test (ha.op stb_v hb fun u v H1 F s e1 ⟨a, e2, dx, tp, O⟩ q => by
  obtain rfl := e1
  obtain rfl := e2
  exact ⟨a, dx, _, rfl, O.ob, a, ls, _, rfl, ⟨dx, tp, O⟩, .inl ⟨x, rfl, fx, fun H' s' => ⟨_, rfl, q _ H' s' rfl⟩⟩⟩)
end
section
variable {X : Cx} {σ : L2.St} {H : Hp} {F : VK} {p a : Addr} {cs : List Int} {b g : Int} {te : TE} {ls : List Str}
theorem er_tupLot (T : KF X.prog X.w X.K X.mg X.base) (h : ER te σ H (IsL X.K ls)) : ER (tCB (Ow.rTupO X (gO X.K) 1 (lAd X.K "__iter__") (spLenL X.K)) (tCons te tNil)) σ H (AtT (ls.map V.str)) := h.cb fun v H1 F s ⟨a, e, dx, tp, O⟩ q => by
  obtain rfl := e
  exact ⟨a, dx, _, tp, ls.map V.str, rfl, O.ob, SqT.of O.ps, by rw [List.length_map]; have := O.le; omega, fun H' k => ⟨a, ls, rfl, ⟨dx, tp, O.same k⟩, by rw [List.length_map], rfl⟩, fun H' k => gives_iterL (X := {X with A := X.A.in1.in1.in1}) T (O.same k), fun p np => q _ _ (same_new np) ⟨p, rfl, upd_same⟩⟩
theorem lot_go (T : KF X.prog X.w X.K X.mg X.base) (h1 : σ[1]? = some (some (.ref p))) (hw : ∀ v, wipe ((wipe σ [18]).set 18 (some v)) [18] = wipe σ [18]) (hw1 : ∀ v, ((wipe σ [18]).set 18 (some v))[1]? = some (some (.ref p))) (N : Pen H p a cs b g) (hb : b ≤ 900)
    (q : ∀ u ls b' g' H', b' ≤ b + 5 → Pen H' p a cs b' g' → SameW H H' p → IsL X.K ls u H' → ls.Nodup → (∀ x ∈ ls, PyData.strOk x = true) → F u H') :
    Oo.tSMeth (gO X.K) (spOf X.K) E0 (tC (.ref (gO X.K))) (tCons (tCB (Oo.rSortedSetS X.w) (tCons (tCB (Oo.rSetStr X) (tCons (tLc (iRng1 (tCons (tCall spDraw [] E0 (tCons (tVar 1) (tCons (tC (.int 5)) tNil))) tNil)) (gName 18) tYes (tCall spFx [] E0 (tCons (tVar 1) tNil)) [18]) tNil)) tNil)) tNil) σ H F := by
  refine ⟨rfl, ?_⟩
  refine ⟨_, h1, p, a, cs, b, g, 5, rfl, N, by omega, by decide, by decide, fun r b1 g1 H1 r0 r1 hb1 N1 k1 => ⟨r, rfl, by omega, by omega, fun D nD => ?_⟩⟩
  have nDp : p ≠ D := ne_of_none N1.pn nD
  have nDa : a ≠ D := ne_of_none N1.ce nD
  refine lc_it (σ := σ) (vs := [18]) (walk_range (lo := 0) (n := r.toNat))
      (fun n H' => ∃ (ds : List Str) (b' g' : Int), ds.length = n ∧ b' ≤ b1 + n ∧ Pen H' p a cs b' g' ∧ SameW H1 H' p ∧ H' D = some (.lst (ds.map V.str)) ∧ ∀ x ∈ ds, isFixB x = true)
      ⟨[], b1, g1, rfl, by omega, N1.nw nD, SameW.of (same_new nD), upd_same, fun _ h => nomatch h⟩ (fun _ _ _ _ => trivial) ?_ ?_
  · rintro n x H4 H5 hn ⟨ds, b4, g4, hl, hb4, N4, s4, hD, hR⟩ ⟨rfl, rfl⟩
    refine ⟨hw _, ?_⟩
    refine yes_go ⟨_, hw1 _, p, a, cs, b4, g4, rfl, N4, by omega, fun y b5 g5 H6 fy hb5 N5 k5 => ?_⟩
    have hD6 : H6 D = some (.lst (ds.map V.str)) := k5 _ _ (Ne.symm nDp) hD
    refine ⟨_, hD6, by rw [List.length_map, sizeLine_eq]; omega, ds ++ [y], b5, g5, by rw [List.length_append, hl]; rfl, by omega, ⟨by rw [upd_ne nDp]; exact N5.pn, by rw [upd_ne nDa]; exact N5.ce, N5.b0, N5.g0, N5.ln⟩, fun c o hc e => ?_, by rw [upd_same, List.map_append]; rfl, fun i hi => ?_⟩
    · have cD : c ≠ D := fun z => by rw [z, nD] at e; cases e
      rw [upd_ne cD]
      exact k5 _ _ hc (s4 c o hc e)
    · rcases List.mem_append.mp hi with h | h
      · exact hR i h
      · rw [List.mem_singleton.mp h]
        exact fy.1
  · rintro H4 ⟨ds, b4, g4, hl, hb4, N4, s4, hD, hR⟩
    have l5 : ds.length ≤ 5 := by omega
    have s04 : SameW H H4 p := fun c o hc e => s4 c o hc (k1 c o hc e)
    refine ⟨D, ds, rfl, SqL.of hD, by omega, fun S n nS hn => ⟨S, _, n, rfl, upd_same, by omega, fun ms L so hm ln nL => ?_⟩⟩
    have N5 := (N4.nw (o := Oo.SetSO X.w S (fun y => decide (y ∈ ds)) n) nS).nw (o := .lst (ms.map V.str)) nL
    have s5 : SameW H (upd (upd H4 S (Oo.SetSO X.w S (fun y => decide (y ∈ ds)) n)) L (.lst (ms.map V.str))) p := (s04.tr (same_new nS)).tr (same_new nL)
    have mem : ∀ x ∈ ms, isFixB x = true := fun x hx => hR x (of_decide_eq_true ((hm x).mp hx))
    have ll := lined_le ms
    refine ⟨_, rfl, .inl ⟨ms.map V.str, ⟨L, rfl, .inl upd_same⟩, fun H' s' => MkLot.good (by omega) mem fun H2 s2 => ⟨fun _ H3 p3 dx tp s3 O => ?_, fun z => by omega⟩⟩⟩
    have s6 := (s'.trans s2).trans s3
    exact q _ (lined ms) b4 g4 H3 (by omega) (N5.sm s6) (s5.tr s6) ⟨p3, rfl, dx, tp, O⟩ (asc_nodup O.asc) fun x hx => fix_ok (O.fx x hx)
end
end K8
set_option Elab.async false
set_option linter.all false
set_option maxRecDepth 100000
set_option maxHeartbeats 4000000
/-! law: what a turn asks. -/
namespace K8
open PySem PySem.Spec PyProof.Rows L2 RV EV He EF EI LamX
theorem fl_ol {k : Kd} {ns : List V} (h : ∀ v ∈ ns, TxW v) : ∀ v ∈ k.ol ns, FlV v := fun v hv => by
  have : v = .int 0 ∨ v ∈ ns := by
    unfold Kd.ol at hv
    split at hv
    · exact .inl (List.mem_singleton.mp hv)
    · exact .inl (List.mem_singleton.mp hv)
    · exact .inl (List.mem_singleton.mp hv)
    · exact .inr (List.mem_of_mem_take hv)
    · exact .inr (List.mem_of_mem_take hv)
    · exact .inr (List.mem_of_mem_take hv)
    · cases hv
    · cases hv
    · cases hv
    · exact .inr (List.mem_filter.mp hv).1
  rcases this with rfl | m
  · exact .inl ⟨0, rfl⟩
  · exact fl_tx (h v m)
theorem fl_od {k : Kd} {ns : List V} (h : ∀ v ∈ ns, TxW v) : ∀ v ∈ k.od ns, FlV v := fun v hv => by
  have : v ∈ ns := by
    unfold Kd.od at hv
    split at hv
    · exact hv
    · exact hv
    · exact hv
    · cases hv
  exact fl_tx (h v this)
theorem fl_bl (bs : List Bool) : ∀ v ∈ bs.map V.bl, FlV v := fun v hv => by
  obtain ⟨b, _, rfl⟩ := List.mem_map.mp hv
  exact .inr (.inl ⟨b, rfl⟩)
theorem fl_grp (k : Kd) : ∀ v ∈ grpV k, FlV v := fun v hv => by
  unfold grpV at hv
  obtain ⟨b, _, rfl⟩ := List.mem_map.mp hv
  exact .inr (.inl ⟨_, rfl⟩)
theorem fl_strs {ls : List Str} (h : ∀ x ∈ ls, PyData.strOk x = true) : ∀ v ∈ ls.map V.str, FlV v := fun v hv => by
  obtain ⟨b, hb, rfl⟩ := List.mem_map.mp hv
  exact .inr (.inr ⟨b, rfl, h b hb⟩)
theorem fl_ofV {ns : List V} {ls : List Str} (h : ∀ x ∈ ls, PyData.strOk x = true) : ∀ v ∈ (ofV ns ls).map V.str, FlV v := fl_strs fun x hx => h x (List.mem_filter.mp hx).1
def DtP (k : Kd) (ns : List V) (up : V) : V → Hp → Prop := fun v H => DAt H v k ns up
theorem stb_dt {k : Kd} {ns : List V} {up : V} : Stb (DtP k ns up) := fun _ _ _ s h => dat_s h s
section
variable {K : PySem.W.Frag} {σ : L2.St} {H : Hp} {ta tb te : TE} {k : Kd} {ns : List V} {up : V} {z : Str}
theorem er_unl (h : ER te σ H (AtT (kindsL.map V.str))) : ER (tCall (spUr K) [] E0 (tCons te tNil)) σ H (IsV (.bl true)) := fun H1 s1 F q => h H1 s1 _ fun u H2 s2 e => ⟨u, rfl, e, fun H' s' => q _ H' (s2.trans s') rfl⟩
theorem er_made (ok : DOk k ns up) (l4 : ns.length ≤ 4) (h : ER te σ H (DtP k ns up)) : ER (tCall (spMa K) [] E0 (tCons te tNil)) σ H (IsG K k ns up) := fun H1 s1 F q => h H1 s1 _ fun u H2 s2 e => ⟨u, k, ns, up, rfl, trivial, ok, l4, e, fun v H' s' g => q v H' (s2.trans s') g⟩
theorem er_text (ok : DOk k ns up) (h : ER te σ H (DtP k ns up)) : ER (tCall spTx [] E0 (tCons te tNil)) σ H (IsV (.str (dTx k ns up))) := fun H1 s1 F q => h H1 s1 _ fun u H2 s2 e => ⟨u, k, ns, up, rfl, ok, e, fun H' s' => q _ H' (s2.trans s') rfl⟩
theorem er_vv {f : Kd → List V → List V} (ok : DOk k ns up) (h : ER te σ H (DtP k ns up)) : ER (tCall (spVv f) [] E0 (tCons te tNil)) σ H (AtT (f k ns)) := fun H1 s1 F q => h H1 s1 _ fun u H2 s2 e => ⟨u, k, ns, up, rfl, ok, e, fun v H' s' g => q v H' (s2.trans s') g⟩
theorem er_grp (hz : k.word = z) (h : ER te σ H (IsV (.str z))) : ER (tCall spGr [] E0 (tCons te tNil)) σ H (AtL (grpV k)) := fun H1 s1 F q => h H1 s1 _ fun u H2 s2 e => by
  obtain rfl := e
  exact ⟨z, k, rfl, hz, fun v H' s' g => q v H' (s2.trans s') g⟩
theorem er_kept (ok : DOk k ns up) (ha : ER ta σ H (IsG K k ns up)) (hb : ER tb σ H (DtP k ns up)) : ER (tCall (spKp K) [] E0 (tCons ta (tCons tb tNil))) σ H (IsP2 (kpD k ns up)) := fun H1 s1 F q => ha H1 s1 _ fun u H2 s2 e => hb H2 (s1.trans s2) _ fun v H3 s3 d =>
  ⟨u, v, k, ns, up, rfl, stb_g _ _ _ s3 e, ok, d, fun x H' s' g => q x H' ((s2.trans s3).trans s') g⟩
theorem dt_wd (hz : k.word = z) (h : ER te σ H (DtP k ns up)) : ER (tOp (rIxT K) te (tC (.int 0))) σ H (IsV (.str z)) := fun H1 s1 F q => h H1 s1 _ fun u H2 s2 ⟨A, xs, e, hA, _⟩ => by
  have hA : H2 A = some (.tup (.str z :: xs)) := by rw [← hz]; exact hA
  exact ⟨A, _, 0, .str z, e, rfl, SqT.of hA, atI_nat (j := 0) rfl, q _ H2 s2 rfl⟩
theorem dt_x {x : Str} {r : List V} (hn : ns = .str x :: r) (hs : ∃ gs, k.shp = .pl gs) (h : ER te σ H (DtP k ns up)) : ER (tOp (rIxT K) te (tC (.int 1))) σ H (IsV (.str x)) := fun H1 s1 F q => h H1 s1 _ fun u H2 s2 ⟨A, xs, e, hA, hx⟩ => by
  obtain ⟨gs, hs⟩ := hs
  rw [hs] at hx
  have hx : xs = ns := hx
  rw [hx, hn] at hA
  exact ⟨A, _, 1, .str x, e, rfl, SqT.of hA, atI_nat (j := 1) rfl, q _ H2 s2 rfl⟩
end
section
variable {P : Program} {w : World} {K : PySem.W.Frag} {mg : Str → Option Value} {base : Heap} {σ : L2.St} {H : Hp} {ta tb te : TE} {k : Kd} {ns : List V} {up : V} {z y : Str} {xs : List V}
theorem t_neG (T : KF P w K mg base) (ha : ER ta σ H (IsG K k ns up)) (hb : ER tb σ H (IsG K k ns up)) : TestR (tTest (tOp (rNeG K) ta tb)) σ H false := by
  have h := (er_neG T ha hb).test
  rw [decide_eq_true rfl] at h
  exact h
theorem er_kw (T : KF P w K mg base) (hz : k.word = z) (h : ER te σ H (IsG K k ns up)) : ER (tCon K te "KIND") σ H (IsV (.str z)) := hz ▸ er_kd T h
theorem t_eqGS (T : KF P w K mg base) (ha : ER ta σ H (IsG K k ns up)) (hb : ER tb σ H (IsV (.str y))) : TestR (tTest (tOp (rEqG K) ta tb)) σ H false := (er_eqO T (t := "str") (by decide) ha hb fun v H' e => by
  obtain rfl := e
  exact .base (.str _)).test
theorem t_eqGT (T : KF P w K mg base) (ha : ER ta σ H (IsG K k ns up)) (hb : ER tb σ H (AtT xs)) : TestR (tTest (tOp (rEqG K) ta tb)) σ H false := (er_eqO T (t := "tuple") (by decide) ha hb fun v H' ⟨a, e, h⟩ => by
  obtain rfl := e
  exact .base (.tup h)).test
end
theorem then_join {t : TT} {te : TE} {SR : TS} {D : Ends} {σ : L2.St} {H : Hp} {b : Bool} {i : Nat} {R : V → Hp → Prop} (h : TestR t σ H b) (stb : Stb R) (k : ∀ v H', Same H H' → R v H' → SR D (σ.set i (some v)) H') (ht : b = true → ER te σ H R) (hf : b = false → ∃ v0, R v0 H ∧ σ.set i (some v0) = σ) : tSeq (tIfS t (tAsg te (gName i)) tNext) SR D σ H := by
  refine TestR.then h (fun hb H' s => ?_) (fun hb H' s => ?_)
  · exact ht hb H' s _ fun v H2 s2 e => k v H2 (s.trans s2) e
  · obtain ⟨v0, r, e⟩ := hf hb
    have := k v0 H' s (stb _ _ _ s r)
    rw [e] at this
    exact this
/-- the rows so far -/
structure RowsE (K : PySem.W.Frag) (H : Hp) (us : List V) (ds : List Dd) : Prop where
  len : us.length = ds.length
  at_ : ∀ (n : Nat) (v : V) (d : Dd), us[n]? = some v → ds[n]? = some d → ∃ t m, v = .ref t ∧ H t = some (.tup [m, .str (dT d)]) ∧ IsDd K d m H
theorem RowsE.same {K : PySem.W.Frag} {H H' : Hp} {us : List V} {ds : List Dd} (h : RowsE K H us ds) (s : Same H H') : RowsE K H' us ds := ⟨h.len, fun n v d a b => by
  obtain ⟨t, m, e, ht, g⟩ := h.at_ n v d a b
  exact ⟨t, m, e, s _ _ ht, stb_g _ _ _ s g⟩⟩
theorem RowsE.w {K : PySem.W.Frag} {H H' : Hp} {us : List V} {ds : List Dd} {p : Addr} {xs : List V} (h : RowsE K H us ds) (hp : H p = some (.lst xs)) (s : SameW H H' p) : RowsE K H' us ds := ⟨h.len, fun n v d a b => by
  obtain ⟨t, m, e, ht, g⟩ := h.at_ n v d a b
  exact ⟨t, m, e, s _ _ (fun z => by rw [z, hp] at ht; cases ht) ht, isg_w g hp s⟩⟩
theorem RowsE.snoc {K : PySem.W.Frag} {H : Hp} {us : List V} {ds : List Dd} {t : Addr} {m : V} {d : Dd} (h : RowsE K H us ds) (ht : H t = some (.tup [m, .str (dT d)])) (g : IsDd K d m H) : RowsE K H (us ++ [.ref t]) (ds ++ [d]) := ⟨by simp [h.len], fun n v e a b => by
  by_cases hn : n < us.length
  · rw [List.getElem?_append_left hn] at a
    rw [List.getElem?_append_left (by rw [← h.len]; exact hn)] at b
    exact h.at_ n v e a b
  · rw [List.getElem?_append_right (by omega)] at a
    rw [List.getElem?_append_right (by rw [← h.len]; omega)] at b
    have l := h.len
    match q : n - us.length, a with
    | 0, a =>
      rw [← l, q] at b
      cases a
      cases b
      exact ⟨t, m, rfl, ht, g⟩
    | j + 1, a => cases a⟩
abbrev ttL (K : PySem.W.Frag) : TT := tTest (tOp rNe (tOp (rEqG K) (tVar 11) (tVar 16)) (tOp rEq (tVar 12) (tVar 17)))
section
variable {P : Program} {w : World} {K : PySem.W.Frag} {mg : Str → Option Value} {base : Heap}
theorem rows_none (T : KF P w K mg base) {H : Hp} {R : Addr} {us : List V} {ds : List Dd} {s0 s1' s2' s3' s4' s6 s7 s8 s9 s10 s13 s14 s15 : Option V} {one : V} {d1 : Dd} (hR : H R = some (.lst us)) (g : RowsE K H us ds) (h1 : IsDd K d1 one H) :
    ER (tLc (iList K (tVar 5)) (gTup K 2 (gCons (gName 16) (gCons (gName 17) gNil))) (ttL K) (tVar 16) [16, 17]) [s0, s1', s2', s3', s4', some (.ref R), s6, s7, s8, s9, s10, some one, some (.str (dT d1)), s13, s14, s15, none, none, none] H (AtL []) := fun H1 s1 F k => by
  refine ⟨_, rfl, R, rfl, ⟨_, SqL.of (s1 _ _ hR)⟩, fun D nD => ?_⟩
  refine lc_it (σ := [s0, s1', s2', s3', s4', some (.ref R), s6, s7, s8, s9, s10, some one, some (.str (dT d1)), s13, s14, s15, none, none, none]) (vs := [16, 17]) (walk_list (K := K) (a := R) (xs := us)) (fun n H' => Same H1 H' ∧ H' D = some (.lst [])) ⟨same_new nD, upd_same⟩ (fun n H' _ q => SqL.of (q.1 _ _ (s1 _ _ hR))) ?_ fun H' ⟨s, hD⟩ => k _ H' s ⟨D, rfl, hD⟩
  rintro n x H4 H5 hn ⟨s4, hD⟩ ⟨rfl, hx⟩
  have q14 := s1.trans s4
  obtain ⟨d2, hd2⟩ : ∃ d2, ds[n]? = some d2 := ⟨_, List.getElem?_eq_getElem (by rw [← g.len]; exact hn)⟩
  obtain ⟨t, m, rfl, ht, gm⟩ := (g.same q14).at_ n x d2 hx hd2
  refine ⟨t, _, rfl, SqT.of ht, rfl, _, _, rfl, _, _, rfl, rfl, rfl, ?_⟩
  have A := er_eqG (σ := [s0, s1', s2', s3', s4', some (.ref R), s6, s7, s8, s9, s10, some one, some (.str (dT d1)), s13, s14, s15, some m, some (.str (dT d2)), none]) T (er_var (i := 11) rfl stb_g (stb_g _ _ _ q14 h1)) (er_var (i := 16) rfl stb_g gm)
  have B := er_eqS (σ := [s0, s1', s2', s3', s4', some (.ref R), s6, s7, s8, s9, s10, some one, some (.str (dT d1)), s13, s14, s15, some m, some (.str (dT d2)), none]) (H := H5) (ta := tVar 12) (tb := tVar 17) (er_v (i := 12) rfl) (er_v (i := 17) rfl)
  exact t_neB A B _ same_rfl _ fun H6 s6 => ⟨s4.trans s6, s6 _ _ hD⟩
end
end K8
set_option Elab.async false
set_option linter.all false
set_option maxRecDepth 100000
set_option maxHeartbeats 2000000
/-! A def that is only called where no repr is under way. -/
namespace Gd
open PySem PySem.Spec PyProof.Rows L2
structure FnG (P : Program) (w : World) (K : PySem.W.Frag) (mg : Str → Option Value) (base : Heap) (C : CXT) (k : Nat) (f : Addr) (fd : FuncData) (ps : List Str) (sp : Sp) : Prop where
  len : ∀ vs H Q E, sp vs H Q E → vs.length = ps.length
  go : ∀ (B : Around) (out : List Env) (t : Shared) (H : Hp) (as : Args) (us : List Value) (vs : List V) (Q : VK) (E : XK), B.guards = some [] → Room k B → Env0 P w K mg base B out t H →
    BindsTo t fd as (ps.zip us) → Vals vs us → sp vs H Q E → codeAny (model P w) B (.call (.ref f) as) (CR C out P w H t Q E) t
section
variable {CX : CXT} {P : Program} {w : World} {K : PySem.W.Frag} {mg : Str → Option Value} {base : Heap} {x qual : Str} {pm0 : Arguments} {body : List Stmt} {scope : Scope} {dvs : List V} {kws : List (Str × V)} {f : Addr} {fd : FuncData} {N ps : List Str} {k : Nat} {sp : Sp}
theorem ofD (D : FunD K x qual pm0 body scope dvs kws f fd) (S : FnScope N ps scope) (len : ∀ vs H Q E, sp vs H Q E → vs.length = ps.length)
    (hbody : ∀ (cdv : Value) (B : Around) (out : List Env) (t : Shared) (H : Hp) (vs : List V) (Q : VK) (E : XK), B.guards = some [] → Room k (B.deeper (envOfC qual scope t.heap.objs.size f cdv)) → sp vs H Q E →
      ∃ r, PSs (cxOf CX P w K mg base N qual scope f cdv B out t H E) body r ∧ r { nx := fun _ H' => Q .non H', rt := Q } (start N vs) H) : FnG P w K mg base CX (k + 1) f fd ps sp := by
  obtain ⟨oc, od, dV, kV, doc, pm, an, cdv, ct, osl, rfl, lk, hcd, _, _⟩ := D.ex
  refine ⟨len, fun B out t H as us vs Q E hG hR e0 hb r hsp => ?_⟩
  have KX : K.In t.heap := e0.mod.kin.keeps fun b o e => (e0.bs b o e).1
  have lim : t.heap.NoLimit := e0.mod.nolimit.keeps fun b o e => (e0.bs b o e).1
  have hkd : ∀ q ∈ ps.zip us, scope.names.lookup q.1 = some .local ∨ (scope.names.lookup q.1 = some .cell ∧ ((cellsFrom (t.heap.objs.size + 1) scope.names []).lookup q.1).isSome = true) := fun ⟨n, v⟩ hq => by
    rcases S.par n (List.of_mem_zip hq).1 with i | i
    · exact .inl i
    · exact .inr ⟨i, PySem.W.cellsFrom_some _ _ _ (.inl i)⟩
  refine codeAny_call_function hR.depth (KX _ _ lk) rfl S.co S.gen rfl (PySem.W.codeRec_of KX hcd) (hb _ _ _ _ ?_)
  refine wpAny_newFunctionEnv_cells S.kind hkd fun ev he t1 X => ?_
  subst he
  refine ⟨lim.keeps X.toInCall.keep, codeAny_func ?_⟩
  obtain ⟨r0, h0, hq⟩ := hbody cdv B out t H vs Q E hG (hR.deeper _) hsp
  refine wpAny_mono (h0.run [] t1 (start N vs) H _ (inv_start S hR.hd e0 (len _ _ _ _ hsp) r X) hq) (fun fl t2 hs => ?_) fun e t2 hs => hs
  cases fl with
  | ret u => exact let ⟨v, _, H', J, rv, q⟩ := hs; ⟨v, H', J.os, J.bare, J.base, J.hok, rv, q⟩
  | next => exact let ⟨_, H', J, q⟩ := hs; ⟨V.non, H', J.os, J.bare, J.base, J.hok, (rfl : Value.none = Value.none), q⟩
  | brk => exact let ⟨_, _, _, q⟩ := hs; False.elim q
  | cont => exact let ⟨_, _, _, q⟩ := hs; False.elim q
end
section
variable {X : Cx} {CX : CXT} {k : Nat} {f : Addr} {fd : FuncData} {ps : List Str} {sp : Sp} {E : XK} {x : Str} {p pos : Pos} {e : Expr} {es : List Expr} {t : TA}
theorem pe_callG (F : FnG X.prog X.w X.K X.mg X.base CX k f fd ps sp) (hR : Room k X.A) (hG : X.A.guards = some []) (hg : Gl X x) (hm : X.mg x = some (.ref f)) (hk : PySem.W.keepIn X.K (.ref f) = true) (hb : Binds X.K fd ps []) (hx : Passes CX X E)
    (ha : PA X (e :: es) t) (hdb : (x == ("__debug__" : Str)) = false := by decide) (he : starEach (e :: es) X.env = (false, eval e X.env) :: starEach es X.env := by rfl) (hpl : (backTo pos (starEach es X.env)).any (·.1) = false := by rfl) :
    PE X (.Call (.Name x p) (e :: es) [] pos) (tCall sp [] E t) := by
  refine ⟨fun pins s σ H Q I h => wpAny_Call_Name_kw (ld_glob I hg hm ?_ hdb)⟩
  refine PySem.W.callWith_K (h₀ := X.base) I.ok.mod.kin hk (thn (ha.run pos pins s σ H _ I h) fun us s1 ⟨vs, H1, I1, r, q⟩ => ⟨I1.kIn, ?_⟩) he hpl
  have r2 : Vals (vs ++ []) (us ++ []) := r.append .nil
  have hl : (us ++ []).length = ps.length := by rw [← r2.length]; exact F.len _ _ _ _ q
  refine wpAny_call (codeAny_mono (F.go X.A X.stack s1 H1 ⟨us, []⟩ (us ++ []) (vs ++ []) Q E hG hR I1.env0 (hb s1 us I1.kIn hl) r2 q) fun z s' hz => ?_)
  match z, hz with
  | .error e, hz => exact hx pins σ H1 s1 e s' I1 hz
  | .ok (.ret u), hz => exact I1.after hz
end
/-- the head's end -/
theorem law_callG {P : Program} {w : World} {K : PySem.W.Frag} {mg mb : Str → Option Value} {k : Nat} {f a : Addr} {fd : FuncData} {x : Str} {sp : Sp} {t : Shared} {us : List Value} {ns : List Int}
    (KX : K.In t.heap) (gM : t.heap.Ns mainGlobals mg) (gB : t.heap.Ns builtinsNs mb) (gb : ∀ x : Str, x ≠ "__name__" → mb x = bootBuiltins x) (lim : t.heap.NoLimit) (hg : t.gens = #[])
    (ha : t.heap.get? a = some { cls := .type "list", data := .seq us.toArray }) (hi : IntsAre us ns) (hl : ns.length ≤ sizeLine) (hR : Room k callerA)
    (F : ∀ base : Heap, K.In base → base.Ns mainGlobals mg → FnG P w K mg base CX0 k f fd [x] sp) (hbind : ∀ (s : Shared) (u : Value), BindsTo s fd ⟨[u], []⟩ [(x, u)])
    (hsp : ∀ H : Hp, Only H → SqL K H a (ns.map V.int) → sp [.ref a] H (fun v _ => v = .bl true) fun _ _ _ => False)
    (hX : ∀ H e s', CX0 [] H t (fun _ _ _ => False) e s' → False) :
    codeAny (model P w) callerA (.call (.ref f) ⟨[.ref a], []⟩) (fun r s' => r = .ok (.ret (.bool true)) ∧ OldK t.heap s'.heap ∧ s'.os = t.os ∧ AllBare s'.gens) t := by
  suffices main : ∃ H : Hp, Only H ∧ SqL K H a (ns.map V.int) ∧ HOk P w H t.heap ∧ (∀ b, H b ≠ none → b = a) ∧ (H a ≠ none → K.lookup a = none) by
    obtain ⟨H, hO, hS, hok, hA, hK⟩ := main
    have hid : ∀ {b : Addr} {o : Obj}, t.heap.get? b = some o → H b = none → (hidT t.heap H).get? b = some o := fun i n => hidT_get i n
    have hns : ∀ {b : Addr} {m : Str → Option Value}, t.heap.Ns b m → (hidT t.heap H).Ns b m := fun {b m} ⟨o, es, ep, i, d, r⟩ => ⟨o, es, ep, hid i (by
      by_cases q : H b = none
      · exact q
      · cases hA b q
        rw [ha] at i
        cases i
        exact nomatch (show Data.seq us.toArray _ = Data.dict es ep from d)), d, r⟩
    have KH : K.In (hidT t.heap H) := fun b o i => hid (KX b o i) (by
      by_cases q : H b = none
      · exact q
      · cases hA b q
        rw [hK q] at i
        cases i)
    have e0 : Env0 P w K mg (hidT t.heap H) callerA [] t H :=
      ⟨rfl, ⟨KH, hns gM, ⟨mb, hns gB, gb⟩, let ⟨m, i, j⟩ := lim; ⟨m, hns i, j⟩⟩, fun b o i => of_hidT i, Nat.le_of_eq (hidT_size _ _), trivial, fun b i => absurd (show b ∈ ([] : List Addr) from i) (by simp), hok, .of_eq hg⟩
    refine codeAny_mono ((F _ KH (hns gM)).go callerA [] t H ⟨[.ref a], []⟩ [.ref a] [.ref a] _ _ rfl hR e0 (hbind t (.ref a)) (.cons rfl .nil) (hsp H hO hS)) fun r s' h => ?_
    match r, h with
    | .error e, h => exact (hX H e s' h).elim
    | .ok (.ret u), h =>
      obtain ⟨v, H', os, bare, un, hok', r', q⟩ := h
      cases (show v = V.bl true from q)
      cases (show u = Value.bool true from r')
      refine ⟨rfl, OldK.of_keep fun b o i => ?_, os, bare⟩
      rcases hO b with q | ⟨ob, xs, q⟩
      · exact un.keep b o i q (by intro z; exact absurd (show b ∈ ([] : List Addr) from z) (by simp)) (by simp)
      · obtain ⟨i1, _⟩ := hok b _ q
        obtain ⟨i2, _⟩ := hok' b _ (un.frzs b ob _ q)
        rw [i] at i1
        cases i1
        exact i2
  by_cases hk : K.lookup a = none
  · refine ⟨fun b => if b = a then some (.frz { cls := .type "list", data := .seq us.toArray } (.lst (ns.map V.int))) else none, fun b => ?_, .inl (.inr ⟨{ cls := .type "list", data := .seq us.toArray }, if_pos rfl⟩), fun b u i => ?_, fun b i => ?_, fun _ => hk⟩
    · by_cases hb : b = a
      · exact .inr ⟨_, _, if_pos hb⟩
      · exact .inl (if_neg hb)
    · by_cases hb : b = a
      · cases (if_pos hb).symm.trans i
        subst hb
        exact ⟨ha, by rw [List.length_map]; exact hl, us, _, vals_ints hi, ha⟩
      · cases (if_neg hb).symm.trans i
    · by_cases hb : b = a
      · exact hb
      · exact absurd (if_neg hb) i
  · obtain ⟨o, ho⟩ : ∃ o, K.lookup a = some o := by
      cases e : K.lookup a with
      | none => exact absurd e hk
      | some o => exact ⟨o, rfl⟩
    have i := KX a o ho
    rw [ha] at i
    cases i
    exact ⟨fun _ => none, fun _ => .inl rfl, .inr ⟨_, us.toArray, _, ho, rfl, rfl, rfl, by rw [List.size_toArray, hi.length]; exact hl, by simpa using vals_ints hi⟩, fun b u z => (nomatch (show (none : Option HO) = some u from z)), fun b z => absurd rfl z, fun z => absurd rfl z⟩
theorem walkG {l : PySem.W.OpenLaw} {n k : Nat} {q : Program} {loose : List Str} {XP : (Str → Option Value) → Heap → Prop} {YP : World → Heap → Prop} {d : DefRec} {x : Str}
    (hn : l.most = some n) (hn2 : n ≤ sizeLine) (hdf : d.params.defaults = []) (hR : Room k callerA)
    (F : ∀ (w : World) (mg : Str → Option Value) (fa : Addr) (h : Heap), YP w h → h.Ns mainGlobals mg → mg d.name = some (.ref fa) →
      ∃ (K : PySem.W.Frag) (fd : FuncData) (sp : Sp), K.In h ∧ (∀ (s : Shared) (u : Value), BindsTo s fd ⟨[u], []⟩ [(x, u)]) ∧
        (∀ (H : Hp) (a : Addr) (ns : List Int), ns.length ≤ n → Only H → SqL K H a (ns.map V.int) → sp [.ref a] H (fun v _ => v = .bl true) fun _ _ _ => False) ∧
        ∀ base : Heap, K.In base → base.Ns mainGlobals mg → FnG l.prog w K mg base CX0 k fa fd [x] sp)
    (hX : ∀ (H : Hp) (s : Shared) (e : Value) (s' : Shared), CX0 [] H s (fun _ _ _ => False) e s' → False) :
    PySem.W.WalkO q loose XP YP l.row.toRowW d [] (fun f vs => PySem.call f vs) := by
  refine Att.attach_call hn hdf fun w s₀ s₁ mg mb fa o pm cd doc a vs ns G Y ho hd hcd hmg hobj hints hlen hg => ?_
  obtain ⟨K, fd, sp, KX, hb, hsp, hF⟩ := F w mg fa _ Y G.T.g hmg
  exact law_callG KX G.T.g G.T.b G.T.builtins G.T.nolimit hg hobj hints (Nat.le_trans hlen hn2) hR hF hb (fun H hO hS => hsp H a ns hlen hO hS) fun H e s' => hX H s₁ e s'
end Gd
set_option Elab.async false
set_option linter.all false
set_option maxRecDepth 100000
set_option maxHeartbeats 4000000
/-! law. -/
namespace Kw
open PySem PySem.Spec PyProof.Rows L2 PySem.W
section
variable {X : Cx} {CX : CXT} {k : Nat} {C p g : Addr} {mc : Value} {fd : FuncData} {ps ks : List Str} {sp : Sp} {E : XK} {m : Str} {pos apos : Pos} {o : Expr} {kws : List Keyword} {to : TE} {tk : TA} {perm : List Nat}
def tSMethKw (C : Addr) (sp : Sp) (perm : List Nat) (n : Nat) (E : XK) (to : TE) (tk : TA) : TE := fun σ H Q => to σ H fun x H1 => x = .ref C ∧ tk σ H1 fun zs H2 => zs.length = n ∧ sp (sel perm zs) H2 Q E
theorem pe_smethKw {pl : Sem Bool} (he : PE X o to) (r : ClX.CRead X.K C mc) (c : Oo.SMet X.K C mc m p g) (F : FnOk X.prog X.w X.K X.mg X.base CX k g fd ps sp) (hr : Room k X.A) (hb : ∀ (s : Shared) (ws : List Value), ws.length = ks.length → BindsTo s fd ⟨[], ks.zip ws⟩ (ps.zip (sel perm ws)))
    (hx : Passes CX X E) (hkw : PK X kws tk) (hall : (backToKw pos (keywordEach kws X.env)).all (·.1.isSome) = true := by rfl) (hks : (backToKw pos (keywordEach kws X.env)).filterMap (·.1) = ks := by rfl)
    (hpl : ((backTo pos (starEach [] X.env)).any (·.1) || (backToKw pos (keywordEach kws X.env)).any (·.1.isNone)) = false := by rfl)
    (ht : eval (.Call (.Attribute o m apos) [] kws pos) X.env = (do
      let u ← eval o X.env
      standAt apos.atName
      let (g, one) ← holding [u] (getMethod u m pl)
      callWith pos g one (backTo pos (starEach [] X.env)) (backToKw pos (keywordEach kws X.env))) := by rfl) : PE X (.Call (.Attribute o m apos) [] kws pos) (tSMethKw C sp perm ks.length E to tk) := by
  refine ⟨fun pins s σ H Q I h => PySem.W.methodCall_KW (pl := pl) (thn (he.run pins s σ H _ I h) fun u s1 ⟨x, H1, I1, rx, ex, q⟩ => ?_) ht⟩
  subst ex
  obtain rfl : u = Value.ref C := rx
  refine Oo.getsm_ok I1 r c fun s2 I2 => ?_
  refine PySem.W.callWith_KW0 (h₀ := X.base) I2.ok.mod.kin c.kp hall (thn (hkw.run pos pins s2 σ H1 _ I2 q) fun ws s3 hw => ?_) hpl
  obtain ⟨zs, H2, I3, rz, hl, q2⟩ := hw
  refine ⟨I3.kIn, ?_⟩
  rw [hks]
  exact run_kw (us := []) (vs := []) F hr hx (hb s3 ws (rz.length.symm.trans hl)) I3 .nil rz q2
end
end Kw
namespace K8
open PySem PySem.Spec PyProof.Rows L2 RV EV He EF EI LamX
theorem of_kw {K : PySem.W.Frag} {x q2 : Str} {body : List Stmt} {sc : Scope} {f : Addr} {fd : FuncData} (F : FunD K x q2 (defArgs (inClass (top 37) 11)) body sc [] [] f fd) : ∀ (s : Shared) (u : Value) (ws : List Value), ws.length = 1 → BindsTo s fd ⟨[u], (["lot"] : List Str).zip ws⟩ ((["self", "lot"] : List Str).zip (u :: Kw.sel [0] ws)) := fun s u ws h => by
  obtain ⟨oc, od, dV, kV, doc, pm, an, cdv, ct, osl, rfl, lk, hcd, hD, hK⟩ := F.ex
  rcases hD with ⟨_, rfl⟩ | ⟨e, _⟩
  · match ws, h with
      | [a], _ => exact .of_eq rfl
  · exact absurd rfl e
theorem rd_kw {K : PySem.W.Frag} {x q2 : Str} {body : List Stmt} {sc : Scope} {f : Addr} {fd : FuncData} (F : FunD K x q2 (defArgs (dSt 2)) body sc [] [] f fd) : ∀ (s : Shared) (ws : List Value), ws.length = 1 → BindsTo s fd ⟨[], (["text"] : List Str).zip ws⟩ ((["text"] : List Str).zip (Kw.sel [0] ws)) := fun s ws h => by
  obtain ⟨oc, od, dV, kV, doc, pm, an, cdv, ct, osl, rfl, lk, hcd, hD, hK⟩ := F.ex
  rcases hD with ⟨_, rfl⟩ | ⟨e, _⟩
  · match ws, h with
      | [a], _ => exact .of_eq rfl
  · exact absurd rfl e
section
variable {K : PySem.W.Frag} {σ : L2.St} {H : Hp} {te : TE} {k : Kd} {ns : List V} {up : V}
theorem er_readK (ok : DOk k ns up) (h : ER te σ H (IsV (.str (dTx k ns up)))) : ER (Kw.tSMethKw (gD K) (spRd K) [0] 1 E0 (tC (.ref (gD K))) (tCons te tNil)) σ H (IsG K k ns up) := fun H1 s1 F q => ⟨rfl, h H1 s1 _ fun u H2 s2 e => by
  obtain rfl := e
  exact ⟨rfl, rd_go ok fun u H' s' g => q u H' (s2.trans s') g⟩⟩
end
theorem mny_ok : DOk .renew [V.int 1, V.int 2, V.int 3, V.int 5, V.int 8, V.int 13, V.int 200] (V.int 13) := ⟨[1, 2, 3, 5, 8, 13, 200], rfl, by decide, by decide, asc_of (by decide) (by decide), .inr ⟨13, by decide, rfl⟩⟩
theorem mny_tx : dTx .renew [V.int 1, V.int 2, V.int 3, V.int 5, V.int 8, V.int 13, V.int 200] (V.int 13) = "renew 1 2 3 5 8 13 200 to 13" := by decide +kernel
theorem shut1_ok : DOk .shut [V.int 1] .non := ⟨⟨1, rfl, by decide, by decide⟩, rfl⟩
theorem redo1_ok : DOk .redo [V.int 1] .non := ⟨⟨1, rfl, by decide, by decide⟩, rfl⟩
theorem night1_ok : DOk .night [V.int 1] .non := ⟨[1], rfl, by decide, by decide, asc_of (by decide) (by decide), .inl rfl⟩
theorem lot_asg {X : Cx} {σ : L2.St} {H : Hp} {SR : TS} {D : Ends} {p a : Addr} {cs : List Int} {b g : Int} (T : KF X.prog X.w X.K X.mg X.base) (h1 : σ[1]? = some (some (.ref p))) (hw : ∀ v, wipe ((wipe σ [18]).set 18 (some v)) [18] = wipe σ [18]) (hw1 : ∀ v, ((wipe σ [18]).set 18 (some v))[1]? = some (some (.ref p))) (N : Pen H p a cs b g) (hb : b ≤ 900)
    (q : ∀ u ls b' g' H', b' ≤ b + 5 → Pen H' p a cs b' g' → SameW H H' p → IsL X.K ls u H' → ls.Nodup → (∀ x ∈ ls, PyData.strOk x = true) → SR D (σ.set 9 (some u)) H') :
    tSeq (tAsg (Oo.tSMeth (gO X.K) (spOf X.K) E0 (tC (.ref (gO X.K))) (tCons (tCB (Oo.rSortedSetS X.w) (tCons (tCB (Oo.rSetStr X) (tCons (tLc (iRng1 (tCons (tCall spDraw [] E0 (tCons (tVar 1) (tCons (tC (.int 5)) tNil))) tNil)) (gName 18) tYes (tCall spFx [] E0 (tCons (tVar 1) tNil)) [18]) tNil)) tNil)) tNil)) (gName 9)) SR D σ H :=
  lot_go (X := X) (F := fun v H' => SR D (σ.set 9 (some v)) H') T h1 hw hw1 N hb q
theorem any_asg {σ : L2.St} {H : Hp} {SR : TS} {D : Ends} {p a : Addr} {cs : List Int} {b g : Int} (h1 : σ[1]? = some (some (.ref p))) (N : Pen H p a cs b g) (hb : b ≤ 890)
    (q : ∀ v k ns up b' g' H', b' ≤ b + 15 → Pen H' p a cs b' g' → SameW H H' p → DOk k ns up → ns.length ≤ 4 → DAt H' v k ns up → SR D (σ.set 7 (some v)) H') : tSeq (tAsg (tCall spAny [] E0 (tCons (tVar 1) tNil)) (gName 7)) SR D σ H :=
  ⟨_, h1, p, a, cs, b, g, rfl, N, hb, q⟩
theorem ER.asg2 {te : TE} {K : PySem.W.Frag} {i j n : Nat} {R : V → Hp → Prop} {σ : L2.St} {H : Hp} {SR : TS} {D : Ends} (h : ER te σ H R) (hn : n = 2) (k : ∀ v H', Same H H' → R v H' → ∃ t x y, v = .ref t ∧ H' t = some (.tup [x, y]) ∧ SR D ((σ.set i (some x)).set j (some y)) H') : tSeq (tAsg te (gTup K n (gCons (gName i) (gCons (gName j) gNil)))) SR D σ H := h.go fun v H' s r => by
  obtain ⟨t, x, y, e, ht, q⟩ := k v H' s r
  exact ⟨t, _, e, SqT.of ht, hn.symm, x, _, rfl, y, _, rfl, rfl, q⟩
theorem nil_asg {σ : L2.St} {H : Hp} {SR : TS} {D : Ends} (k : ∀ r, H r = none → SR D (σ.set 5 (some (.ref r))) (upd H r (.lst []))) : tSeq (tAsg (tLst tNil) (gName 5)) SR D σ H := ⟨Nat.zero_le _, fun r nr => k r nr⟩
def spLw (K : PySem.W.Frag) : Sp := fun vs H Q _ => ∃ (S : Addr) (ns : List Int), vs = [.ref S] ∧ SqL K H S (ns.map V.int) ∧ ns.length ≤ 63 ∧ ∀ H', Q (.bl true) H'
abbrev scLw_N : List Str := ["_law_script", "_law_pen_here", "_law_words", "_law_many_here", "_law_kinds", "_law_rows", "_law_turn", "_law_deed", "_law_groups_here", "_law_lot", "_law_own", "_law_one", "_law_text_here", "_law_made_here", "_law_told", "_law_due", "_law_other", "_law_page", "_law_lap"]
theorem scLw : FnScope scLw_N ["_law_script"] (defScope (top 85)) := ⟨rfl, rfl, rfl, by decide +kernel, rfl, by decide +kernel, by decide +kernel⟩
section
variable {P : Program} {w : World} {K : PySem.W.Frag} {mg : Str → Option Value} {base : Heap}
theorem c_pen (T : KF P w K mg base) : Callee P w K mg base CX0 1 "_law_pen" ["_law_script"] (spPen K) := by
  obtain ⟨fd, F, g⟩ := T.tops ("_law_pen", 70) (by decide)
  exact ⟨fd, ok_pen F (blt T), FunD.bindsN F fun _ _ _ _ _ _ us hl => match us, hl with | [_], _ => rfl, F.kp, g⟩
theorem ok_law (T : KF P w K mg base) {fd : FuncData} (F : FnP K "law" (top 85) (ga K "law") fd) : Gd.FnG P w K mg base CX0 14 (ga K "law") fd ["_law_script"] (spLw K) := by
  obtain ⟨fP, GP, bP, kP, gP⟩ := c_pen (w := w) T
  obtain ⟨fDr, GDr, bDr, kDr, gDr⟩ := c_draw (w := w) T
  obtain ⟨fF, GF, bF, kF, gF⟩ := c_fx (w := w) T
  obtain ⟨fA, GA, bA, kA, gA⟩ := c_any (w := w) T
  obtain ⟨fTx, GTx, bTx, kTx, gTx⟩ := c_text (w := w) T
  obtain ⟨fMa, GMa, bMa, kMa, gMa⟩ := c_made (w := w) T
  obtain ⟨fOl, GOl, bOl, kOl, gOl⟩ := c_lol (w := w) T
  obtain ⟨fOd, GOd, bOd, kOd, gOd⟩ := c_lod (w := w) T
  obtain ⟨fGr, GGr, bGr, kGr, gGr⟩ := c_grp (w := w) T
  obtain ⟨fKp, GKp, bKp, kKp, gKp⟩ := c_kept (w := w) T
  obtain ⟨fU, GU, bU, kU, gU⟩ := c_unl (w := w) T
  obtain ⟨fpRedo, GpRedo, bpRedo, mpRedo, gpRedo⟩ := m_Redo (w := w) T
  obtain ⟨fpShut, GpShut, bpShut, mpShut, gpShut⟩ := m_Shut (w := w) T
  obtain ⟨fpFix, GpFix, bpFix, mpFix, gpFix⟩ := m_Fix (w := w) T
  obtain ⟨fpOffer, GpOffer, bpOffer, mpOffer, gpOffer⟩ := m_Offer (w := w) T
  obtain ⟨fpProbe, GpProbe, bpProbe, mpProbe, gpProbe⟩ := m_Probe (w := w) T
  obtain ⟨fM, itsM, GM, ⟨rM, bM⟩, bM2, ⟨ggM, bMk⟩, _, mM, gM⟩ := x_Merge (w := w) T
  obtain ⟨GNight, mNight, gNight⟩ := m_Night (w := w) T
  obtain ⟨GRenew, mRenew, gRenew⟩ := m_Renew (w := w) T
  have gCut := T.gc
  have mCut := mk_cut T
  obtain ⟨fR, FR⟩ := T.frd
  have bR : L2.Binds K fR ["text"] [] := FunD.bindsN FR fun _ _ _ _ _ _ us hl => match us, hl with | [_], _ => rfl
  have GRd := ok_read (w := w) T FR
  have GR := Oo.FnOk.r0 GRd bR
  have bRk := rd_kw FR
  obtain ⟨_, sm, cr⟩ := deed_facts T
  obtain ⟨fO, FO⟩ := T.fo
  have bO : L2.Binds K fO ["fixes"] [] := FunD.bindsN FO fun _ _ _ _ _ _ us hl => match us, hl with | [_], _ => rfl
  have GOf := Oo.FnOk.r0 (ok_of (w := w) T FO) bO
  obtain ⟨_, fLn, FLn⟩ := T.lot ("__len__", 7) (by decide)
  have GLn := ok_lenL (w := w) T FLn
  have bLn : L2.Binds K fLn ["self"] [] := FunD.bindsN FLn fun _ _ _ _ _ _ us hl => match us, hl with | [_], _ => rfl
  obtain ⟨_, fCo, FCo⟩ := T.lot ("__contains__", 6) (by decide)
  have bCo : L2.Binds K fCo ["self", "x"] [] := FunD.bindsN FCo fun _ _ _ _ _ _ us hl => match us, hl with | [_, _], _ => rfl
  have GCo := Oo.FnOk.r0 (ok_coL (w := w) T FCo) bCo
  refine Gd.ofD F scLw (fun vs H Q E h => ?_) (fun cdv B out t H vs Q E hG hr h => ?_)
  · obtain ⟨S, ns, rfl, _⟩ := h
    rfl
  · obtain ⟨S, ns, rfl, hS, hn, k⟩ := h
    have nd := scLw.nd
    refine ⟨_, PSs.nox (pss_cons (ps_set (i := 1) nd rfl (.inr rfl) (pe_call (E := E0) GP (hr.mono (by decide)) (by rfl) gP kP bP .nil pass0 (pa_cons (pv 0) pa_nil)))
      (pss_cons (ps_set (i := 2) nd rfl (.inl rfl) (pe_tup (pa_cons pe_str (pa_cons pe_str (pa_cons pe_str (pa_cons pe_str (pa_cons pe_str (pa_cons pe_str (pa_cons pe_str (pa_cons pe_str (pa_cons pe_str (pa_cons pe_str (pa_cons pe_str pa_nil)))))))))))))
      (pss_cons (ps_set (i := 2) nd rfl (.inl rfl) (pe_op op_catT (pv 2) (pe_tup (pa_cons pe_str (pa_cons pe_str (pa_cons pe_str (pa_cons pe_str (pa_cons pe_str (pa_cons pe_str (pa_cons pe_str (pa_cons pe_str pa_nil)))))))))))
      (pss_cons (ps_if (pt_not (pt_val (pe_call (E := E0) GU (hr.mono (by decide)) (by rfl) gU kU bU .nil pass0 (pa_cons (pv 2) pa_nil)))) (pss_one (ps_ret pe_bl)) pss_nil)
      (pss_cons (ps_set (i := 3) nd rfl (.inl rfl) (Sk.pe_skK (E := E0) mRenew GRenew (hr.mono (by decide)) (by rfl) gRenew passL (pa_cons pe_int (pa_cons pe_int (pa_cons pe_int (pa_cons pe_int (pa_cons pe_int (pa_cons pe_int (pa_cons pe_int pa_nil))))))) (pk_cons pe_int pk_nil)))
      (pss_cons (ps_if (PW.pt (pw_or (pt_cmpR op_ne (pe_callTy (call_strK T (hr.mono (by decide))) (by rfl) (T.fr "str" (by decide)) boot_T (pa_cons (pv 3) pa_nil)) pe_str (nomark _)) (pw_or1 (pt_cmpR (op_neG T (hr.mono (by decide))) (Oo.pe_smeth (E := E0) (pe_glob (v := .ref (gD K)) (by rfl) T.gdd rfl) cr sm GR (hr.mono (by decide)) passL (pa_cons (pe_callTy (call_strK T (hr.mono (by decide))) (by rfl) (T.fr "str" (by decide)) boot_T (pa_cons (pv 3) pa_nil)) pa_nil)) (pv 3) (nomark _))))) (pss_one (ps_ret pe_bl)) pss_nil)
      (pss_cons (ps_set (i := 4) nd rfl (.inl rfl) (pe_lst (pa_cons (pe_callB call_isi (by rfl) (T.fr "isinstance" (by decide)) PyProof.Rows.boot_isinstance (pa_cons (Oo.pe_new00 mCut (by rfl) gCut) (pa_cons (pe_glob (v := .ref (ga K "OnMain")) (by rfl) (T.mid "OnMain" (by decide)) rfl) pa_nil))) (pa_cons (pe_callB call_isi (by rfl) (T.fr "isinstance" (by decide)) PyProof.Rows.boot_isinstance (pa_cons (pe_make (E := E0) (dvs := [.non]) mM GM (hr.mono (by decide)) (by rfl) gM bM rM passL (pa_cons pe_int pa_nil)) (pa_cons (pe_glob (v := .ref (ga K "OnLine")) (by rfl) (T.mid "OnLine" (by decide)) rfl) pa_nil))) (pa_cons (pe_callB call_isi (by rfl) (T.fr "isinstance" (by decide)) PyProof.Rows.boot_isinstance (pa_cons (pe_make (E := E0) (dvs := [.non]) mM GM (hr.mono (by decide)) (by rfl) gM bM rM passL (pa_cons pe_int pa_nil)) (pa_cons (pe_glob (v := .ref (ga K "OfMany")) (by rfl) (T.mid "OfMany" (by decide)) rfl) pa_nil))) (pa_cons (pe_callB call_isi (by rfl) (T.fr "isinstance" (by decide)) PyProof.Rows.boot_isinstance (pa_cons (pe_make (E := E0) mpProbe GpProbe (hr.mono (by decide)) (by rfl) gpProbe bpProbe .nil passL (pa_cons pe_int (pa_cons pe_int pa_nil))) (pa_cons (pe_glob (v := .ref (ga K "OfTwo")) (by rfl) (T.mid "OfTwo" (by decide)) rfl) pa_nil))) pa_nil))))))
      (pss_cons (ps_set (i := 4) nd rfl (.inl rfl) (pe_op op_cat (pv 4) (pe_lst (pa_cons (pe_callB call_isi (by rfl) (T.fr "isinstance" (by decide)) PyProof.Rows.boot_isinstance (pa_cons (pv 3) (pa_cons (pe_glob (v := .ref (ga K "OfDay")) (by rfl) (T.mid "OfDay" (by decide)) rfl) pa_nil))) (pa_cons (pe_callB call_isi (by rfl) (T.fr "isinstance" (by decide)) PyProof.Rows.boot_isinstance (pa_cons (pv 3) (pa_cons (pe_glob (v := .ref (ga K "OfMany")) (by rfl) (T.mid "OfMany" (by decide)) rfl) pa_nil))) (pa_cons (pe_callB call_isi (by rfl) (T.fr "isinstance" (by decide)) PyProof.Rows.boot_isinstance (pa_cons (pe_make (E := E0) mpShut GpShut (hr.mono (by decide)) (by rfl) gpShut bpShut .nil passL (pa_cons pe_int pa_nil)) (pa_cons (pe_glob (v := .ref (ga K "OfDay")) (by rfl) (T.mid "OfDay" (by decide)) rfl) pa_nil))) (pa_cons (pe_callB call_isi (by rfl) (T.fr "isinstance" (by decide)) PyProof.Rows.boot_isinstance (pa_cons (Sk.pe_sk (E := E0) mNight GNight (hr.mono (by decide)) (by rfl) gNight passL (pa_cons pe_int pa_nil)) (pa_cons (pe_glob (v := .ref (ga K "OfMany")) (by rfl) (T.mid "OfMany" (by decide)) rfl) pa_nil))) pa_nil)))))))
      (pss_cons (ps_if (PW.pt (pw_or (pt_cmpR (op_neD hr.units) (pv 4) (pe_op op_rep (pe_lst (pa_cons pe_bl pa_nil)) pe_int) (nomark _)) (pw_or1 (pt_cmpR (op_neD hr.units) (pe_lst (pa_cons (pe_callB call_isi (by rfl) (T.fr "isinstance" (by decide)) PyProof.Rows.boot_isinstance (pa_cons (pe_make (E := E0) mpFix GpFix (hr.mono (by decide)) (by rfl) gpFix bpFix .nil passL (pa_cons pe_str pa_nil)) (pa_cons (pe_glob (v := .ref (ga K "OnLine")) (by rfl) (T.mid "OnLine" (by decide)) rfl) pa_nil))) (pa_cons (pe_callB call_isi (by rfl) (T.fr "isinstance" (by decide)) PyProof.Rows.boot_isinstance (pa_cons (pe_make (E := E0) mpRedo GpRedo (hr.mono (by decide)) (by rfl) gpRedo bpRedo .nil passL (pa_cons pe_int pa_nil)) (pa_cons (pe_glob (v := .ref (ga K "OfMany")) (by rfl) (T.mid "OfMany" (by decide)) rfl) pa_nil))) (pa_cons (pe_callB call_isi (by rfl) (T.fr "isinstance" (by decide)) PyProof.Rows.boot_isinstance (pa_cons (pe_make (E := E0) mpOffer GpOffer (hr.mono (by decide)) (by rfl) gpOffer bpOffer .nil passL (pa_cons pe_int pa_nil)) (pa_cons (pe_glob (v := .ref (ga K "OfTwo")) (by rfl) (T.mid "OfTwo" (by decide)) rfl) pa_nil))) pa_nil)))) (pe_op op_rep (pe_lst (pa_cons pe_bl pa_nil)) pe_int) (nomark _))))) (pss_one (ps_ret pe_bl)) pss_nil)
      (pss_cons (ps_set (i := 5) nd rfl (.inl rfl) (pe_lst pa_nil))
      (pss_cons (ps_for PassesOwn.never rfl (pi_range1 (by rfl) (T.fr "range" (by decide)) (pa_cons pe_int pa_nil)) (pg_name (i := 6) nd rfl (.inl rfl))
      (pss_cons (ps_set (i := 7) nd rfl (.inl rfl) (pe_call (E := E0) GA (hr.mono (by decide)) (by rfl) gA kA bA .nil pass0 (pa_cons (pv 1) pa_nil)))
      (pss_cons (ps_asg (pe_tup (pa_cons (pe_call (E := E0) GMa (hr.mono (by decide)) (by rfl) gMa kMa bMa .nil pass0 (pa_cons (pv 7) pa_nil)) (pa_cons (pe_call (E := E0) GTx (hr.mono (by decide)) (by rfl) gTx kTx bTx .nil pass0 (pa_cons (pv 7) pa_nil)) pa_nil))) (pg_tup (by rfl) (pgs_cons (pg_name (i := 13) nd rfl (.inl rfl)) (pgs_cons (pg_name (i := 12) nd rfl (.inr rfl)) pgs_nil))))
      (pss_cons (ps_if (PW.pt (pw_or (pt_cmpR op_ne (pe_callTy (call_strK T (hr.mono (by decide))) (by rfl) (T.fr "str" (by decide)) boot_T (pa_cons (pv 13) pa_nil)) (pv 12) (nomark _)) (pw_or (pt_cmpR (op_neG T (hr.mono (by decide))) (Oo.pe_smeth (E := E0) (pe_glob (v := .ref (gD K)) (by rfl) T.gdd rfl) cr sm GR (hr.mono (by decide)) passL (pa_cons (pv 12) pa_nil)) (pv 13) (nomark _)) (pw_or (pt_cmpR (op_neG T (hr.mono (by decide))) (Kw.pe_smethKw (E := E0) (perm := [0]) (ks := ["text"]) (pe_glob (v := .ref (gD K)) (by rfl) T.gdd rfl) cr sm GRd (hr.mono (by decide)) bRk passL (pk_cons (pv 12) pk_nil)) (pv 13) (nomark _)) (pw_or1 (pt_cmpR op_ne (pe_con (pv 13) rfl) (pe_ix ix_tup (pv 7) pe_int (fun _ _ => rfl)) (nomark _))))))) (pss_one (ps_ret pe_bl)) pss_nil)
      (pss_cons (ps_if (PW.pt (pw_or (pt_cmpR (op_neD hr.units) (pe_con (pv 13) rfl) (pv 2) (nomark _)) (pw_or (pt_cmpR (op_neD hr.units) (pe_ex fun q => (pe_meth0 (E := E0) (pv 13) (kcls T q) (ol_k (w := w) T q).1 (ol_k (w := w) T q).2.choose_spec.1 (hr.mono (by decide)) (ol_k (w := w) T q).2.choose_spec.2 .nil pass0)) (pe_call (E := E0) GOl (hr.mono (by decide)) (by rfl) gOl kOl bOl .nil pass0 (pa_cons (pv 7) pa_nil)) (nomark _)) (pw_or1 (pt_cmpR (op_neD hr.units) (pe_ex fun q => (pe_meth0 (E := E0) (pv 13) (kcls T q) (od_k (w := w) T q).1 (od_k (w := w) T q).2.choose_spec.1 (hr.mono (by decide)) (od_k (w := w) T q).2.choose_spec.2 .nil pass0)) (pe_call (E := E0) GOd (hr.mono (by decide)) (by rfl) gOd kOd bOd .nil pass0 (pa_cons (pv 7) pa_nil)) (nomark _)))))) (pss_one (ps_ret pe_bl)) pss_nil)
      (pss_cons (ps_set (i := 8) nd rfl (.inl rfl) (pe_lst (pa_cons (pe_callB call_isi (by rfl) (T.fr "isinstance" (by decide)) PyProof.Rows.boot_isinstance (pa_cons (pv 13) (pa_cons (pe_glob (v := .ref (ga K "OnMain")) (by rfl) (T.mid "OnMain" (by decide)) rfl) pa_nil))) (pa_cons (pe_callB call_isi (by rfl) (T.fr "isinstance" (by decide)) PyProof.Rows.boot_isinstance (pa_cons (pv 13) (pa_cons (pe_glob (v := .ref (ga K "OnLine")) (by rfl) (T.mid "OnLine" (by decide)) rfl) pa_nil))) (pa_cons (pe_callB call_isi (by rfl) (T.fr "isinstance" (by decide)) PyProof.Rows.boot_isinstance (pa_cons (pv 13) (pa_cons (pe_glob (v := .ref (ga K "OfTwo")) (by rfl) (T.mid "OfTwo" (by decide)) rfl) pa_nil))) (pa_cons (pe_callB call_isi (by rfl) (T.fr "isinstance" (by decide)) PyProof.Rows.boot_isinstance (pa_cons (pv 13) (pa_cons (pe_glob (v := .ref (ga K "OfMany")) (by rfl) (T.mid "OfMany" (by decide)) rfl) pa_nil))) (pa_cons (pe_callB call_isi (by rfl) (T.fr "isinstance" (by decide)) PyProof.Rows.boot_isinstance (pa_cons (pv 13) (pa_cons (pe_glob (v := .ref (ga K "OfDay")) (by rfl) (T.mid "OfDay" (by decide)) rfl) pa_nil))) pa_nil)))))))
      (pss_cons (ps_if (pt_cmpR (op_neD hr.units) (pv 8) (pe_call (E := E0) GGr (hr.mono (by decide)) (by rfl) gGr kGr bGr .nil pass0 (pa_cons (pe_ix ix_tup (pv 7) pe_int (fun _ _ => rfl)) pa_nil)) (nomark _)) (pss_one (ps_ret pe_bl)) pss_nil)
      (pss_cons (ps_asg (pe_call (E := E0) GKp (hr.mono (by decide)) (by rfl) gKp kKp bKp .nil pass0 (pa_cons (pv 13) (pa_cons (pv 7) pa_nil))) (pg_tup (by rfl) (pgs_cons (pg_name (i := 14) nd rfl (.inl rfl)) (pgs_cons (pg_name (i := 15) nd rfl (.inl rfl)) pgs_nil))))
      (pss_cons (ps_if (pt_cmpR op_ne (pe_callB (RV.call_repr hG hr.units) (by rfl) (T.fr "repr" (by decide)) PyProof.Rows.boot_repr (pa_cons (pv 14) pa_nil)) (pe_callB (RV.call_repr hG hr.units) (by rfl) (T.fr "repr" (by decide)) PyProof.Rows.boot_repr (pa_cons (pv 15) pa_nil)) (nomark _)) (pss_one (ps_ret pe_bl)) pss_nil)
      (pss_cons (ps_set (i := 9) nd rfl (.inl rfl) (Oo.pe_smeth (E := E0) (pe_glob (v := .ref (gO K)) (by rfl) T.go rfl) (cread T) (smet T) GOf (hr.mono (by decide)) passL (pa_cons (pe_callB (Oo.cr_sortedSetS rfl) (by rfl) (T.fr "sorted" (by decide)) boot_sorted (pa_cons (pe_callTy (Oo.call_setStr rfl) (by rfl) (T.fr "set" (by decide)) boot_T (pa_cons
          (pe_lc (own := [("_law_lap", 18)]) (g := gName 18) (tt := tYes) (te := tCall spFx [] E0 (tCons (tVar 1) tNil)) rfl nd (pi_range1 (by rfl) (T.fr "range" (by decide)) (pa_cons (pe_call (E := E0) GDr (hr.mono (by decide)) (by rfl) gDr kDr bDr .nil pass0 (pa_cons (pv 1) (pa_cons pe_int pa_nil))) pa_nil)) (blkOk_by (N := scLw_N) (sc := defScope (top 85)) (by decide +kernel))
            (fun _ _ _ _ _ => pg_name (i := 18) nd rfl (.inl rfl)) (fun _ _ _ _ _ => pts_nil) (fun _ _ _ _ _ => (pe_call (E := E0) GF (hr.mono (by decide)) (by rfl) gF kF bF .nil pass0 (pa_cons (pv 1) pa_nil)))) pa_nil)) pa_nil)) pa_nil)))
      (pss_cons (ps_set (i := 10) nd rfl (.inl rfl) (pe_callTy (Ow.call_tupO (sp := spLenL K) rfl (lm T ("__iter__", 8) (by decide)).at_ (lm T ("__iter__", 8) (by decide)).fn (lm T ("__len__", 7) (by decide)).at_ (lm T ("__len__", 7) (by decide)).fn (k := 1) (k2 := 1) (hr.mono (by decide)) GLn bLn (hr.mono (by decide))) (by rfl) (T.fr "tuple" (by decide)) boot_T (pa_cons (pv 9) pa_nil)))
      (pss_cons (ps_if (pt_cmpR op_in_seq (pe_ix ix_tup (pv 7) pe_int (fun _ _ => rfl)) (pe_tup (pa_cons pe_str (pa_cons pe_str (pa_cons pe_str (pa_cons pe_str pa_nil))))) rfl) (pss_one (ps_set (i := 10) nd rfl (.inl rfl) (pe_ifExp (pt_cmpR (Oo.op_inO (E := E0) (lm T ("__contains__", 6) (by decide)) GCo (hr.mono (by decide)) pass0) (pe_ix ix_tup (pv 7) pe_int (fun _ _ => rfl)) (pv 9) rfl) (pe_tup (pa_cons (pe_ix ix_tup (pv 7) pe_int (fun _ _ => rfl)) pa_nil)) (pe_tup pa_nil)))) pss_nil)
      (pss_cons (ps_if (PW.pt (pw_or (pt_cmpR (op_neD hr.units) (pe_ex fun q => (pe_meth (E := E0) (pv 13) (kcls T q) (of_k (w := w) T q).1 (of_k (w := w) T q).2.choose_spec.1 (hr.mono (by decide)) (of_k (w := w) T q).2.choose_spec.2.1 .nil pass0 (pa_cons (pv 9) pa_nil))) (pv 10) (nomark _)) (pw_or (pt_cmpR (op_neD hr.units) (pe_ex fun q => (Kw.pe_methKw (E := E0) (perm := [0]) (ks := ["lot"]) (pv 13) (kcls T q) (of_k (w := w) T q).1 (of_k (w := w) T q).2.choose_spec.1 (hr.mono (by decide)) (of_kw (of_k (w := w) T q).2.choose_spec.2.2.choose_spec) pass0 (pk_cons (pv 9) pk_nil))) (pv 10) (nomark _)) (pw_or (pt_cmpR (op_eqG T (hr.mono (by decide))) (pv 13) (pv 12) (nomark _)) (pw_or1 (pt_cmpR (op_eqG T (hr.mono (by decide))) (pv 13) (pe_call (E := E0) GOl (hr.mono (by decide)) (by rfl) gOl kOl bOl .nil pass0 (pa_cons (pv 7) pa_nil)) (nomark _))))))) (pss_one (ps_ret pe_bl)) pss_nil)
      (pss_one (ps_expr (pe_bm PySem.F.plainAttrs_list PySem.F.slot_list_append PySem.F.type_list_append mt_append (pv 5) (pa_cons (pe_tup (pa_cons (pv 13) (pa_cons (pv 12) pa_nil))) pa_nil)))))))))))))))))
      (pss_cons (ps_for PassesOwn.never rfl (pi_list (pv 5)) (pg_tup (by rfl) (pgs_cons (pg_name (i := 11) nd rfl (.inr rfl)) (pgs_cons (pg_name (i := 12) nd rfl (.inr rfl)) pgs_nil)))
      (pss_one (ps_if (pt_cmpR (op_neD hr.units) (pe_lc (own := [("_law_other", 16), ("_law_page", 17)]) (g := gTup K 2 (gCons (gName 16) (gCons (gName 17) gNil))) (tt := ttL K) (te := tVar 16) rfl nd (pi_list (pv 5)) (blkOk_by (N := scLw_N) (sc := defScope (top 85)) (by decide +kernel))
          (fun _ _ _ _ _ => pg_tup (by rfl) (pgs_cons (pg_name (i := 16) nd rfl (.inl rfl)) (pgs_cons (pg_name (i := 17) nd rfl (.inl rfl)) pgs_nil))) (fun _ _ _ _ _ => pts_one (pt_cmpR op_ne (pe_cmpR (op_eqG T (hr.mono (by decide))) (pv 11) (pv 16) (nomark _)) (pe_cmpR op_eq (pv 12) (pv 17) (nomark _)) (nomark _))) (fun _ _ _ _ _ => pv 16)) (pe_lst pa_nil) (nomark _)) (pss_one (ps_ret pe_bl)) pss_nil)))
      (pss_one (ps_ret (pe_cmpR (op_eqD hr.units) (ClX.pe_cval (pe_glob (v := .ref (gD K)) (by rfl) T.gdd rfl)) (pv 2) (nomark _)))))))))))))))), ?_⟩
    have hs : L2.start scLw_N [.ref S] = [some (.ref S), none, none, none, none, none, none, none, none, none, none, none, none, none, none, none, none, none, none] := rfl
    rw [hs]
    refine ⟨_, rfl, S, ns, rfl, hS, hn, fun p a cs H1 N s1 => ?_⟩
    refine ER.asg (i := 2) (er_tupS ["fix", "unfix", "carry", "drop", "merge", "cut", "end", "offer", "try", "probe", "meet"] (by decide)) fun v2 H2 s2 e2 => ?_
    show tSeq _ _ _ [some (.ref S), some (.ref p), some v2, none, none, none, none, none, none, none, none, none, none, none, none, none, none, none, none] H2
    refine ER.asg (i := 2) (er_catT (K := K) (by decide) (by decide) (by decide) (er_var (i := 2) rfl stb_t e2) (er_tupS ["live", "rise", "down", "day", "night", "redo", "renew", "shut"] (by decide))) fun v3 H3 s3 e3 => ?_
    show tSeq _ _ _ [some (.ref S), some (.ref p), some v3, none, none, none, none, none, none, none, none, none, none, none, none, none, none, none, none] H3
    have e3 : AtT (kindsL.map V.str) v3 H3 := e3
    refine TestR.then (t_notE (er_unl (K := K) (er_var (i := 2) rfl stb_t e3))) (fun z => nomatch z) fun _ H4 s4 => ?_
    refine ER.asg (i := 3) (er_skK (k := .renew) (K := K) rfl rfl (era_cons er_c (era_cons er_c (era_cons er_c (era_cons er_c (era_cons er_c (era_cons er_c (era_cons er_c era_nil))))))) (era_cons er_c era_nil) (good_of mny_ok).2 mny_ok) fun vm H5 s5 em => ?_
    show tSeq _ _ _ [some (.ref S), some (.ref p), some v3, some vm, none, none, none, none, none, none, none, none, none, none, none, none, none, none, none] H5
    have m5 : ∀ {H'}, Same H5 H' → ∀ {b4 b5 b6 b7 b8 b9 b10 b11 b12 b13 b14 b15 b16 b17 b18}, ER (tVar 3) [some (.ref S), some (.ref p), some v3, some vm, b4, b5, b6, b7, b8, b9, b10, b11, b12, b13, b14, b15, b16, b17, b18] H' (IsG K .renew [V.int 1, V.int 2, V.int 3, V.int 5, V.int 8, V.int 13, V.int 200] (V.int 13)) := fun s => er_var (i := 3) rfl stb_g (stb_g _ _ _ s em)
    have st5 := er_strK (K := K) (m5 same_rfl (b4 := none) (b5 := none) (b6 := none) (b7 := none) (b8 := none) (b9 := none) (b10 := none) (b11 := none) (b12 := none) (b13 := none) (b14 := none) (b15 := none) (b16 := none) (b17 := none) (b18 := none))
    refine TestR.then (TestR.or (t_neS (b := "renew 1 2 3 5 8 13 200 to 13") st5 er_c mny_tx) (t_neG T (er_read mny_ok st5) (m5 same_rfl))) (fun z => absurd z (by decide)) fun _ H6 s6 => ?_
    refine ER.asg (i := 4) (er_lstA (era_cons (er_isG T (d := "OnMain") (b := true) (by decide) (by decide) (er_cut trivial)) (era_cons (er_isG T (d := "OnLine") (b := true) (k := .merge) (by decide) (by decide) (e_Merge rfl (ulC_ok (.merge, [V.int 1], .non) (by simp [ulC])) (era_cons er_c era_nil)))
        (era_cons (er_isG T (d := "OfMany") (b := true) (k := .merge) (by decide) (by decide) (e_Merge rfl (ulC_ok (.merge, [V.int 1], .non) (by simp [ulC])) (era_cons er_c era_nil))) (era_cons (er_isG T (d := "OfTwo") (b := true) (k := .probe) (by decide) (by decide) (e_Probe rfl (ulC_ok (.probe, [V.int 1, V.int 2], .non) (by simp [ulC])) (era_cons er_c (era_cons er_c era_nil)))) era_nil)))) (by decide)) fun v4 H7 s7 e4 => ?_
    show tSeq _ _ _ [some (.ref S), some (.ref p), some v3, some vm, some v4, none, none, none, none, none, none, none, none, none, none, none, none, none, none] H7
    have s57 := s6.trans s7
    refine ER.asg (i := 4) (er_cat (er_var (i := 4) rfl stb_l e4) (er_lstA (era_cons (er_isG T (d := "OfDay") (b := true) (by decide) (by decide) (m5 s57)) (era_cons (er_isG T (d := "OfMany") (b := true) (by decide) (by decide) (m5 s57))
        (era_cons (er_isG T (d := "OfDay") (b := true) (k := .shut) (by decide) (by decide) (e_Shut rfl shut1_ok (era_cons er_c era_nil))) (era_cons (er_isG T (d := "OfMany") (b := true) (k := .night) (by decide) (by decide) (er_sk rfl rfl (era_cons er_c era_nil) (good_of night1_ok).2 night1_ok)) era_nil)))) (by decide)) (by decide)) fun v5 H8 s8 e5 => ?_
    show tSeq _ _ _ [some (.ref S), some (.ref p), some v3, some vm, some v5, none, none, none, none, none, none, none, none, none, none, none, none, none, none] H8
    have e5 : AtL ([true, true, true, true, true, true, true, true].map V.bl) v5 H8 := e5
    refine TestR.then (TestR.or (t_neRL (K := K) (fl_bl [true, true, true, true, true, true, true, true]) (er_var (i := 4) rfl stb_l e5) (er_rep (n := 8) (xs := [V.bl true]) (er_lstA (era_cons er_c era_nil) (by decide)) (by decide) (by decide)))
      (t_neRL (K := K) (fl_bl [false, false, false]) (er_lstA (era_cons (er_isG T (d := "OnLine") (b := false) (k := .fix) (by decide) (by decide) (e_Fix rfl (ulB_ok (.fix, [V.str "f"], .non) (by simp [ulB])) (era_cons er_c era_nil))) (era_cons (er_isG T (d := "OfMany") (b := false) (k := .redo) (by decide) (by decide) (e_Redo rfl redo1_ok (era_cons er_c era_nil)))
        (era_cons (er_isG T (d := "OfTwo") (b := false) (k := .offer) (by decide) (by decide) (e_Offer rfl (ulB_ok (.offer, [V.int 1], .non) (by simp [ulB])) (era_cons er_c era_nil))) era_nil))) (by decide)) (er_rep (n := 3) (xs := [V.bl false]) (er_lstA (era_cons er_c era_nil) (by decide)) (by decide) (by decide)))) (fun z => absurd z (by decide)) fun _ H9 s9 => ?_
    refine nil_asg fun R nR => ?_
    have N9 := N.sm ((s2.trans s3).trans (s4.trans (s5.trans (s57.trans (s8.trans s9)))))
    have aR : a ≠ R := ne_of_none N9.ce nR
    have s10 : Same H9 (upd H9 R (.lst [])) := same_new nR
    have hR : upd H9 R (.lst []) R = some (.lst []) := upd_same
    generalize upd H9 R (.lst []) = H10 at s10 hR
    have s2t := (s2.trans s3).trans (s4.trans (s5.trans (s57.trans (s8.trans (s9.trans s10)))))
    have N10 := N.sm s2t
    have e10 := stb_t _ _ _ (s4.trans (s5.trans (s57.trans (s8.trans (s9.trans s10))))) e3
    have Rp : R ≠ p := fun z => by rw [z, N10.pn] at hR; cases hR
    refine ⟨16, rfl, by decide, by decide, ?_⟩
    refine for_it (walk_range (lo := 0) (n := 16)) (fun i σ' H' => ∃ (v6 v7 v8 v9 v10 v12 v13 v14 v15 : Option V) (b' g' : Int) (us : List V) (ds : List Dd), b' ≤ 20 * (i : Int) ∧ us.length = i ∧ Pen H' p a cs b' g' ∧ AtT (kindsL.map V.str) v3 H' ∧ H' R = some (.lst us) ∧ RowsE K H' us ds ∧ σ' = [some (.ref S), some (.ref p), some v3, some vm, some v5, some (.ref R), v6, v7, v8, v9, v10, none, v12, v13, v14, v15, none, none, none])
      ⟨none, none, none, none, none, none, none, none, none, 0, 0, [], [], by omega, rfl, N10, e10, hR, ⟨rfl, fun _ _ _ z => nomatch z⟩, rfl⟩ (fun _ _ _ _ _ => trivial) ?_ ?_
    · rintro i x σ' H11 H12 hi ⟨v6, v7, v8, v9, v10, v12, v13, v14, v15, b, g, us, ds, hb, hl', N11, w11, hR11, rw11, rfl⟩ ⟨rfl, rfl⟩
      refine any_asg rfl N11 (by omega) fun v kd ks up b1 g1 H13 hb1 N13 q13 ok l4 dat => ?_
      have w13 := att_w w11 N11.pn q13
      have hR13 := q13 _ _ Rp hR11
      have rw13 := rw11.w N11.pn q13
      obtain ⟨tw, _, tu⟩ := dok_tx ok
      generalize hz : kd.word = z
      have d7 : ∀ {H' a8 a9 a10 a12 a13 a14 a15}, Same H13 H' → ER (tVar 7) [some (.ref S), some (.ref p), some v3, some vm, some v5, some (.ref R), some (.int (0 + (i : Nat))), some v, a8, a9, a10, none, a12, a13, a14, a15, none, none, none] H' (DtP kd ks up) := fun s => er_var (i := 7) rfl stb_dt (dat_s dat s)
      show tSeq _ _ _ [some (.ref S), some (.ref p), some v3, some vm, some v5, some (.ref R), some (.int (0 + (i : Nat))), some v, v8, v9, v10, none, v12, v13, v14, v15, none, none, none] H13
      refine ER.asg2 (i := 13) (j := 12) (er_tup2 stb_g (er_made (K := K) ok l4 (d7 same_rfl)) (er_text ok (d7 same_rfl))) rfl fun u H14 q14 ⟨t1, m, y, e, ht1, H0, q0, gm0, ey⟩ => ⟨t1, m, y, e, ht1, ?_⟩
      obtain rfl := e
      obtain rfl := ey
      have gm := stb_g _ _ _ q0 gm0
      show tSeq _ _ _ [some (.ref S), some (.ref p), some v3, some vm, some v5, some (.ref R), some (.int (0 + (i : Nat))), some v, v8, v9, v10, none, some (.str (dTx kd ks up)), some m, v14, v15, none, none, none] H14
      have m13 : ∀ {H' a8 a9 a10 a14 a15}, Same H14 H' → ER (tVar 13) [some (.ref S), some (.ref p), some v3, some vm, some v5, some (.ref R), some (.int (0 + (i : Nat))), some v, a8, a9, a10, none, some (.str (dTx kd ks up)), some m, a14, a15, none, none, none] H' (IsG K kd ks up) := fun s => er_var (i := 13) rfl stb_g (stb_g _ _ _ s gm)
      have x12 : ∀ {H' a8 a9 a10 a14 a15}, ER (tVar 12) [some (.ref S), some (.ref p), some v3, some vm, some v5, some (.ref R), some (.int (0 + (i : Nat))), some v, a8, a9, a10, none, some (.str (dTx kd ks up)), some m, a14, a15, none, none, none] H' (IsV (.str (dTx kd ks up))) := er_v (i := 12) rfl
      refine TestR.then (TestR.or (t_neS (er_strK (K := K) (m13 same_rfl)) x12 rfl) (TestR.or (t_neG T (er_read ok x12) (m13 same_rfl)) (TestR.or (t_neG T (er_readK ok x12) (m13 same_rfl)) (t_neS (er_kw T hz (m13 same_rfl)) (dt_wd (K := K) hz (d7 q14)) rfl)))) (fun z => absurd z (by decide)) fun _ H15 q15 => ?_
      have w15 := stb_t _ _ _ (q14.trans q15) w13
      refine TestR.then (TestR.or (t_neK (K := K) (er_ks T (m13 q15)) (er_var (i := 2) rfl stb_t w15)) (TestR.or (t_neRT (K := K) (fl_ol tw) (er_owV (f := Kd.ol) (by decide) (m13 q15)) (er_vv (f := Kd.ol) ok (d7 (q14.trans q15)))) (t_neRT (K := K) (fl_od tw) (er_owV (f := Kd.od) (by decide) (m13 q15)) (er_vv (f := Kd.od) ok (d7 (q14.trans q15)))))) (fun z => absurd z (by decide)) fun _ H16 q16 => ?_
      have q46 := q15.trans q16
      refine ER.asg (i := 8) (er_lstA (era_cons (er_isG T (d := "OnMain") (by decide) rfl (m13 q46)) (era_cons (er_isG T (d := "OnLine") (by decide) rfl (m13 q46)) (era_cons (er_isG T (d := "OfTwo") (by decide) rfl (m13 q46)) (era_cons (er_isG T (d := "OfMany") (by decide) rfl (m13 q46)) (era_cons (er_isG T (d := "OfDay") (by decide) rfl (m13 q46)) era_nil))))) (by simp)) fun v8' H17 q17 e8 => ?_
      show tSeq _ _ _ [some (.ref S), some (.ref p), some v3, some vm, some v5, some (.ref R), some (.int (0 + (i : Nat))), some v, some v8', v9, v10, none, some (.str (dTx kd ks up)), some m, v14, v15, none, none, none] H17
      have e8 : AtL (grpV kd) v8' H17 := e8
      have q47 := q46.trans q17
      refine TestR.then (t_neRL (K := K) (fl_grp kd) (er_var (i := 8) rfl stb_l e8) (er_grp hz (dt_wd (K := K) hz (d7 (q14.trans q47))))) (fun z => nomatch z) fun _ H18 q18 => ?_
      have q48 := q47.trans q18
      refine ER.asg2 (i := 14) (j := 15) (er_kept ok (m13 q48) (d7 (q14.trans q48))) rfl fun u H19 q19 ⟨t2, l1, l2, e, ht2, da, db⟩ => ⟨t2, l1, l2, e, ht2, ?_⟩
      obtain rfl := e
      show tSeq _ _ _ [some (.ref S), some (.ref p), some v3, some vm, some v5, some (.ref R), some (.int (0 + (i : Nat))), some v, some v8', v9, v10, none, some (.str (dTx kd ks up)), some m, some l1, some l2, none, none, none] H19
      obtain ⟨dl, edl⟩ := kpD_list kd ks up
      have sh := kp_sh ok
      rw [edl] at da db sh
      refine TestR.then (t_neS (er_repr sh (er_var (i := 14) rfl stb_d da)) (er_repr sh (er_var (i := 15) rfl stb_d db)) rfl) (fun z => nomatch z) fun _ H20 q20 => ?_
      have q40 := (q48.trans q19).trans q20
      have N20 := N13.sm (q14.trans q40)
      refine lot_asg (X := (cxOf CX0 P w K mg base scLw_N "law" (defScope (top 85)) (ga K "law") cdv B out t H E).nox) T rfl (fun _ => rfl) (fun _ => rfl) N20 (by omega) fun u ls b2 g2 H21 hb2 N21 q21 hl nol so => ?_
      show tSeq _ _ _ [some (.ref S), some (.ref p), some v3, some vm, some v5, some (.ref R), some (.int (0 + (i : Nat))), some v, some v8', some u, v10, none, some (.str (dTx kd ks up)), some m, some l1, some l2, none, none, none] H21
      have gm21 := isg_w (stb_g _ _ _ q40 gm) N20.pn q21
      have dt21 := dat_w (dat_s dat (q14.trans q40)) N20.pn q21
      have w21 := att_w (stb_t _ _ _ (q14.trans q40) w13) N20.pn q21
      have hR21 := q21 _ _ Rp ((q14.trans q40) _ _ hR13)
      have rw21 := (rw13.same (q14.trans q40)).w N20.pn q21
      have n13 : ∀ {H' a10}, Same H21 H' → ER (tVar 13) [some (.ref S), some (.ref p), some v3, some vm, some v5, some (.ref R), some (.int (0 + (i : Nat))), some v, some v8', some u, a10, none, some (.str (dTx kd ks up)), some m, some l1, some l2, none, none, none] H' (IsG K kd ks up) := fun s => er_var (i := 13) rfl stb_g (stb_g _ _ _ s gm21)
      have f7 : ∀ {H' a10}, Same H21 H' → ER (tVar 7) [some (.ref S), some (.ref p), some v3, some vm, some v5, some (.ref R), some (.int (0 + (i : Nat))), some v, some v8', some u, a10, none, some (.str (dTx kd ks up)), some m, some l1, some l2, none, none, none] H' (DtP kd ks up) := fun s => er_var (i := 7) rfl stb_dt (dat_s dt21 s)
      have l9 : ∀ {H' a10}, Same H21 H' → ER (tVar 9) [some (.ref S), some (.ref p), some v3, some vm, some v5, some (.ref R), some (.int (0 + (i : Nat))), some v, some v8', some u, a10, none, some (.str (dTx kd ks up)), some m, some l1, some l2, none, none, none] H' (IsL K ls) := fun s => er_var (i := 9) rfl stb_lot (stb_lot _ _ _ s hl)
      have y12 : ∀ {H' a10}, ER (tVar 12) [some (.ref S), some (.ref p), some v3, some vm, some v5, some (.ref R), some (.int (0 + (i : Nat))), some v, some v8', some u, a10, none, some (.str (dTx kd ks up)), some m, some l1, some l2, none, none, none] H' (IsV (.str (dTx kd ks up))) := er_v (i := 12) rfl
      refine ER.asg (i := 10) (er_tupLot (X := (cxOf CX0 P w K mg base scLw_N "law" (defScope (top 85)) (ga K "law") cdv B out t H E).nox) T (l9 same_rfl)) fun v10' H22 q22 e10 => ?_
      show tSeq _ _ _ [some (.ref S), some (.ref p), some v3, some vm, some v5, some (.ref R), some (.int (0 + (i : Nat))), some v, some v8', some u, some v10', none, some (.str (dTx kd ks up)), some m, some l1, some l2, none, none, none] H22
      refine then_join (i := 10) (R := AtT ((ofV ks ls).map V.str)) (in_sF (K := K) (ss := ["fix", "unfix", "carry", "drop"]) (dt_wd (K := K) hz (f7 q22)) (by decide)) stb_t (fun v11' H23 q23 e11 => ?_) (fun c => ?_) (fun c => ⟨v10', by rw [ofV_no (of_n hz ok c)]; exact e10, rfl⟩)
      · show tSeq _ _ _ [some (.ref S), some (.ref p), some v3, some vm, some v5, some (.ref R), some (.int (0 + (i : Nat))), some v, some v8', some u, some v11', none, some (.str (dTx kd ks up)), some m, some l1, some l2, none, none, none] H23
        have q13' := q22.trans q23
        refine TestR.then (TestR.or (t_neRT (K := K) (fl_ofV so) (er_owF (n13 q13') (l9 q13')) (er_var (i := 10) rfl stb_t e11)) (TestR.or (t_neRT (K := K) (fl_ofV so) (er_owFK (n13 q13') (l9 q13')) (er_var (i := 10) rfl stb_t e11)) (TestR.or (t_eqGS T (n13 q13') y12) (t_eqGT T (n13 q13') (er_vv (f := Kd.ol) ok (f7 q13')))))) (fun z => absurd z (by decide)) fun _ H24 q24 => ?_
        have q14' := q13'.trans q24
        have hR24 := q14' _ _ hR21
        refine ⟨_, rfl, .inl ⟨rfl, _, SqL.of hR24⟩, ?_⟩
        refine (er_tup2 stb_g (n13 q14') y12).go fun u2 H25 q25 ⟨t3, m3, y3, e, ht3, H0', q0', gm3, ey3⟩ => ?_
        obtain rfl := e
        obtain rfl := ey3
        have q15' := q14'.trans q25
        have hR25 := q15' _ _ hR21
        have N25 := N21.sm q15'
        refine ⟨R, us, _, rfl, rfl, hR25, by rw [sizeLine_eq]; omega, ?_⟩
        have sw : SameW H25 (upd H25 R (.lst (us ++ [V.ref t3]))) R := fun c o hc e => by rw [upd_ne hc]; exact e
        refine ⟨_, _, _, _, _, _, _, _, _, b2, g2, us ++ [V.ref t3], ds ++ [(kd, ks, up)], by omega, by rw [List.length_append, hl']; rfl, ⟨by rw [upd_ne (Ne.symm Rp)]; exact N25.pn, by rw [upd_ne aR]; exact N25.ce, N25.b0, N25.g0, N25.ln⟩, att_w (stb_t _ _ _ q15' w21) hR25 sw, upd_same, ?_, rfl⟩
        exact ((rw21.same q15').snoc (d := (kd, ks, up)) ht3 (stb_g _ _ _ q0' gm3)).w hR25 sw
      · obtain ⟨x, r, hn', fx, hs', hsh⟩ := of_x hz ok c
        rw [ofV_x hs' nol]
        refine er_ifE (t_inO (dt_x (K := K) hn' hsh (f7 q22)) fx (l9 q22)) (fun hb => ?_) (fun hb => ?_)
        · rw [if_pos hb]
          exact er_tup1 (dt_x (K := K) hn' hsh (f7 q22))
        · rw [if_neg (by rw [hb]; exact fun z => nomatch z)]
          exact er_tup0
    · rintro σ' H11 ⟨v6, v7, v8, v9, v10, v12, v13, v14, v15, b, g, us, ds, hb, hl, N11, w11, hR11, rw11, rfl⟩
      have N11' := N11
      refine ⟨_, rfl, R, rfl, ⟨_, SqL.of hR11⟩, ?_⟩
      refine for_it (walk_list (K := K) (a := R) (xs := us)) (fun i σ' H' => ∃ a11 a12, σ' = [some (.ref S), some (.ref p), some v3, some vm, some v5, some (.ref R), v6, v7, v8, v9, v10, a11, a12, v13, v14, v15, none, none, none] ∧ Same H11 H') ⟨none, v12, rfl, same_rfl⟩ (fun i σ' H' _ ⟨_, _, _, s⟩ => SqL.of (s _ _ hR11)) ?_ ?_
      · rintro i x σ' H12 H13 hi ⟨a11, a12, rfl, s12⟩ ⟨rfl, hx⟩
        obtain ⟨d1, hd1⟩ : ∃ d1, ds[i]? = some d1 := ⟨_, List.getElem?_eq_getElem (by rw [← rw11.len]; exact hi)⟩
        obtain ⟨t1, m, rfl, ht1, gm⟩ := (rw11.same s12).at_ i x d1 hx hd1
        refine ⟨t1, _, rfl, SqT.of ht1, rfl, _, _, rfl, _, _, rfl, rfl, ?_⟩
        exact (t_ne0 (K := K) (rows_none T (one := m) (d1 := d1) (s12 _ _ hR11) (rw11.same s12) gm)).ifS (fun z => nomatch z) fun _ H14 s14 => ⟨_, _, rfl, s12.trans s14⟩
      · rintro σ' H12 ⟨a11, a12, rfl, s12⟩
        refine (er_eqK (er_ksC T) (er_var (i := 2) rfl stb_t (stb_t _ _ _ s12 w11))).go fun u H13 s13 e => ?_
        obtain rfl := e
        exact k H13
end
end K8
set_option Elab.async false
set_option linter.all false
set_option maxRecDepth 100000
set_option maxHeartbeats 0
open PySem PySem.W PySem.Calls PyProof.Rows
theorem PySem.Challenge.cw_editionlines_k08_deeds_made_holds : PySem.Challenge.rw_editionlines_k08_deeds_made.Holds := by
  w_on; o_law
  refine HandSHeadRun.head_any (r := OpenLaw.row PySem.Challenge.rw_editionlines_k08_deeds_made) (q := view (OpenLaw.row PySem.Challenge.rw_editionlines_k08_deeds_made).prog [85]) (H := K8.hkS) (ob := K8.obT) (M := 30000) (loose := K8.loose) (d := HandSHeadRun.topDef (OpenLaw.row PySem.Challenge.rw_editionlines_k08_deeds_made).prog 85) (kwd := []) K8.obT_eq
    (by kernel_rfl) (fun s => by kernel_rfl) K8.runS (by kernel_rfl) (by kernel_rfl) (by kernel_rfl) (by rfl) (by first | assumption | decide +kernel) (by decide +kernel) ⟨rfl, rfl, rfl, rfl, rfl, by decide +kernel⟩ ?hw ?hc
  case hw => w_witness2
  case hc =>
    refine Gd.walkG (l := PySem.Challenge.rw_editionlines_k08_deeds_made) (n := 63) (k := 14) (x := "_law_script") rfl (by decide) (by kernel_rfl) ⟨rfl, by decide, by decide⟩ ?F (fun _ _ _ _ z => z)
    intro w mg fa h Y G hmg0
    obtain ⟨K, KX, c⟩ := Y
    have hmg : mg ("law" : PySem.Str) = some (.ref fa) := by
      have e : (HandSHeadRun.topDef (OpenLaw.row PySem.Challenge.rw_editionlines_k08_deeds_made).prog 85).name = ("law" : PySem.Str) := by kernel_rfl
      rw [← e]
      exact hmg0
    obtain ⟨fd, F, g⟩ := (K8.kf (P := (PySem.Challenge.rw_editionlines_k08_deeds_made).prog) KX G c h).tops ("law", 85) (by decide)
    cases hmg.symm.trans g
    have b := L2.FunD.bindsA (ps := ["_law_script"]) F fun _ _ _ _ _ _ us hl => match us, hl with | [_], _ => rfl
    exact ⟨K, fd, K8.spLw K, KX, fun s u => b s [u] rfl, fun H a ns hl _ hS => ⟨a, ns, rfl, hS, hl, fun _ => rfl⟩, fun base KB GB => K8.ok_law (K8.kf KX G c base) F⟩
