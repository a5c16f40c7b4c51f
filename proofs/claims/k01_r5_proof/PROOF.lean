import PyProof.Rows.All
import Wide.All
import OpenK.AllK
import Wide.FinOn
import HandS.ForMost
import HandS.Exc
import HandS.ExcOwn
import HandS.ExcInit
import KE.KExcIs
import HandS.ExcValue
import HandS.ExcField
import HandS.IsInst
import HandS.ExcIs
import HandS.Defaults
import HandS.MakeKw
import HandS.MakeKwOnly
import PyProof.ReprRoads
import HandS.TupMul
import KE.KStateDown
import HandS.Head0
import HandS.Head1
import HandS.Head2
import HandS.HeadEnd
import HandS.HeadHook1
import HandS.HeadHook2
import PySem.Challenge.RW_editionlines_k01_errors_and_their_fields
import PyProof.Rows.FactsN_isinstance
import HandS.Ends
import PyProof.StrLawsRepr
import HandS.Conv
import HandS.SortInts
import HandS.More
import HandS.Words
import HandS.WordsExc
/-! EKw -/
set_option Elab.async false
set_option linter.all false
set_option maxRecDepth 100000
set_option maxHeartbeats 4000000
/-! An own exception class over ValueError, called with keywords: at the library's level. -/
namespace EKw
open PySem PySem.HandSPX Builtin Builtin.ObjectAttr
section
variable {M : Model} {prog : Program} {w : World} {A : Around} {E : Value → Shared → Prop}
  {R : Result → Shared → Prop} {hp : Heap} {gs : Array GenState} {dr : Drawn} {tk : Nat} {os : OsState}
variable {nm q : Str} {C N : Addr} {bs bm : List Value} {hdct : Bool} {sn : List Str} {sub : List Value}
  {ab : Bool} {col : Option Bool} {dd : Option Addr} {k0 k1 k2 k3 k5 : Option Value}
abbrev clsO (nm q : Str) (C N : Addr) (bs bm : List Value) (hdct : Bool) (sn : List Str) (sub : List Value)
    (ab : Bool) (col : Option Bool) (dd : Option Addr) (k0 k1 k2 k3 k5 : Option Value) : Obj :=
  excClassObj nm q C N bs bm hdct sn sub ab col dd k0 k1 k2 k3 k5 "ValueError.__new__"
theorem checkNewKw (hbm : refsVE bm = true) {us : List Value} {kw : List (Str × Value)} {Q : Unit → Shared → Prop}
    (hC : hp.get? C = some (clsO nm q C N bs bm hdct sn sub ab col dd k0 k1 k2 k3 k5)) (hq : Q () ⟨hp, gs, dr, tk, os⟩) :
    wpAny M A (checkBuiltinCall "ValueError.__new__" ⟨.ref C :: us, kw⟩) Q E ⟨hp, gs, dr, tk, os⟩ := by
  have e1 : (Value.ref C :: bm).contains (.type "ValueError") = true := by
    rw [List.contains_cons, refsVE_contains _ bm hbm]; simp
  have e2 := F.excBase_ValueError.noStar
  simp only [checkBuiltinCall, F.excBase_ValueError.newKind, F.excBase_ValueError.newSplit, F.excBase_ValueError.newRow]
  repeat (first
    | refine wpAny_loadPart_at hC ?_
    | (refine wpAny_isSubtype_exc hC ?_; rw [e1])
    | refine wpAny_staticBase_exc hC ?_
    | refine wpAny_madeBy_exc hC ?_
    | simp only [bne_self_eq_false, Bool.false_eq_true, if_false]
    | wp_step)
  all_goals exact hq
theorem newKw (hbm : refsVE bm = true) {us : List Value} {kw : List (Str × Value)}
    (hC : hp.get? C = some (clsO nm q C N bs bm hdct sn sub ab col dd k0 k1 k2 k3 k5)) (hz : us.length ≤ sizeLine)
    (hq : R (.ok (.ret (.ref (hp.objs.size + 1)))) ⟨(hp.push (W.kdv_tup us)).push (excO C hp.objs.size), gs, dr, tk, os⟩) :
    codeAny (model prog w) A (.builtin "ValueError.__new__" ⟨.ref C :: us, kw⟩) R ⟨hp, gs, dr, tk, os⟩ := by
  have e0 := F.excBase_ValueError.ends
  have has : ∀ X : String, (Value.ref C :: bm).contains (.type X) = veTail.contains (.type X) := fun X => by
    rw [List.contains_cons, refsVE_contains _ bm hbm]
    rfl
  have e1 := (has "ValueError").trans (by decide : _ = true)
  have e2 := (has "AttributeError").trans (by decide : _ = false)
  have e3 := (has "NameError").trans (by decide : _ = false)
  refine codeAny_builtinAt F.excBase_ValueError.entry ?_
  unfold Builtin.«BaseException.__new__»
  refine wpAt_bind ?_
  show wpAt _ _ _ (stack >>= _) _ _ _
  refine wpAt_bind (wpAt_stack fun p below => wpAt_of_wpAny ?_)
  wp_walk
  refine wpAt_of_wpAny ?_
  rw [F.excBase_ValueError.owner]
  repeat (first
    | with_reducible refine wpAny_madeHere_exc F.excBase_ValueError.canon hC ?_
    | with_reducible refine wpAny_loadPart_at hC ?_
    | (with_reducible refine wpAny_isSubtype_exc hC ?_; first | rw [e1] | rw [e2] | rw [e3])
    | wp_step)
  show R _ _
  rw [Heap.size_push]
  exact hq
theorem typeCallKw (hbm : refsVE bm = true) {us : List Value} {kw : List (Str × Value)} {fI : Addr} {Q : Fin → Shared → Prop}
    (hC : hp.get? C = some (clsO nm q C N bs bm hdct sn sub ab col dd k0 k1 k2 k3 k5))
    (hi : W.Looks (model prog w) hp (typeLookup (.ref C) "__init__") (some (.ref fI)))
    (hb : ∀ self, W.Looks (model prog w) hp (bindSpecial (.ref fI) self) (.ref fI, [self])) (hz : us.length ≤ sizeLine)
    (hq : codeAny (model prog w) A (.call (.ref fI) ⟨.ref (hp.objs.size + 1) :: us, kw⟩)
      (fun r s' => match r with
        | .ok (.ret v) => v = .none ∧ Q (.done (.ret (.ref (hp.objs.size + 1)))) s'
        | .ok _ => False
        | .error e => E e s')
      ⟨(hp.push (W.kdv_tup us)).push (excO C hp.objs.size), gs, dr, tk, os⟩) :
    wpAny (model prog w) A (Builtin.«type.__call__» ⟨.ref C :: us, kw⟩) Q E ⟨hp, gs, dr, tk, os⟩ := by
  repeat (first
    | with_reducible refine wpAny_loadPart_at hC ?_
    | with_reducible refine wpAny_madeBy_exc hC ?_
    | wp_step)
  refine codeAny_call_builtin_code (Code.quiet_builtin _ F.excBase_ValueError.quiet) (checkNewKw hbm hC ?_)
  refine newKw hbm hC hz ?_
  show wpAny _ _ _ _ _ _
  have kk : ∀ b o, hp.get? b = some o → ((hp.push (W.kdv_tup us)).push (excO C hp.objs.size)).get? b = some o :=
    fun b o e => Heap.get?_push_of_some _ (Heap.get?_push_of_some _ e)
  have hC2 := kk _ _ hC
  have hnew : ((hp.push (W.kdv_tup us)).push (excO C hp.objs.size)).get? (hp.objs.size + 1) = some (excO C hp.objs.size) := by
    heap_get
  have hself : (Value.ref C :: bm).contains (.ref C) = true := by simp
  have i2 := hi.keeps kk
  have b2 := (hb (.ref (hp.objs.size + 1))).keeps kk
  unfold isInstance
  repeat (first
    | with_reducible refine wpAny_loadPart_at hnew ?_
    | (with_reducible refine wpAny_isSubtype_exc hC2 ?_; rw [hself])
    | wp_step)
  show wpAny _ _ (typeLookup (.ref C) _) _ _ _
  refine i2.at (wpAny_holding (wpAny_bind (b2.at ?_)))
  refine wpAny_bind (wpAny_call (codeAny_mono hq fun r s' z => ?_))
  rcases r with e | (v | _ | _ | _) <;> first
    | exact z
    | exact z.elim
    | (obtain ⟨rfl, z⟩ := z; first
        | exact wpAny_pure (wpAny_pure z)
        | (wp_walk; exact z))
theorem callKw (hbm : refsVE bm = true) {us : List Value} {kw : List (Str × Value)} {fI : Addr}
    (hC : hp.get? C = some (clsO nm q C N bs bm hdct sn sub ab col dd k0 k1 k2 k3 k5))
    (hi : W.Looks (model prog w) hp (typeLookup (.ref C) "__init__") (some (.ref fI)))
    (hb : ∀ self, W.Looks (model prog w) hp (bindSpecial (.ref fI) self) (.ref fI, [self])) (hz : us.length ≤ sizeLine)
    (hq : codeAny (model prog w) (A.under (.builtin "type.__call__" ⟨.ref C :: us, kw⟩)) (.call (.ref fI) ⟨.ref (hp.objs.size + 1) :: us, kw⟩)
      (W.InitBack (hp.objs.size + 1) R) ⟨(hp.push (W.kdv_tup us)).push (excO C hp.objs.size), gs, dr, tk, os⟩) :
    codeAny (model prog w) A (.call (.ref C) ⟨us, kw⟩) R ⟨hp, gs, dr, tk, os⟩ := by
  have f1 := tc_lookup
  have f2 := tc_bind (.ref C)
  have hTy : (⟨hp, gs, dr, tk, os⟩ : Shared).TypeIs (.ref C) "type" := ⟨_, hC, rfl⟩
  refine codeAny_of_tree ?_
  show wpAny _ _ (callAny (.ref C) _) _ _ _
  repeat (any_goals (first
    | assumption
    | with_reducible refine wpAny_loadPart_at hC ?_
    | wp_step))
  refine ⟨rfl, ?_⟩
  refine codeAny_call_builtin_at (Code.quiet_builtin _ (by decide +kernel)) entry_typeCall
    (wpAny_check_type_call_sub hC (typeCallKw hbm hC hi hb hz ?_))
  refine codeAny_mono hq fun r s' z => ?_
  rcases r with e | (v | _ | _ | _) <;> exact z
end
end EKw

/-! ErrV -/
set_option Elab.async false
set_option linter.all false
set_option maxRecDepth 100000
set_option maxHeartbeats 4000000
/-! Own exceptions (over ValueError, with an __init__ of their own) held as values: made, their fields read, asked by isinstance. -/
namespace EV
open PySem PySem.Spec PyProof.Rows L2
/-- an error of the class at C stands at a; its dict at d holds fs -/
structure ErrAt (H : Hp) (a C d : Addr) (fs : List (Str × V)) : Prop where
  ob : H a = some (exo a C (some d))
  dc : H d = some (exd d fs)
/-- C(..), the class's own __init__ keeping sp, handed the values vs -/
def tErr (C : Addr) (sp : Sp) (gV : List V → List V) (E : XK) (t : TA) : TE := fun σ H Q => t σ H fun vs H1 => vs.length ≤ 1000 ∧
  ∀ a, H1 a = none → sp (.ref a :: gV vs) (upd H1 a (exo a C none)) (fun v H2 => v = .non ∧ Q (.ref a) H2) E
section
variable {X : Cx} {CX : CXT} {k n : Nat} {fI C : Addr} {fd : FuncData} {ps ks : List Str} {sp : Sp} {E : XK} {x : Str}
  {p pos : Pos} {e : Expr} {es : List Expr} {kws : List Keyword} {t tk : TA}
theorem run_err {pins : List (Addr × Obj)} {σ : L2.St} {H : Hp} {s : Shared} {Q : VK} {us bs : List Value} {kw : List (Str × Value)} {vs : List V}
    (T : OexC X.K C) (iC : PySem.W.findIn X.K (.ref C) "__init__" = some (some (.ref fI)))
    (tI : PySem.W.typeIn X.K (.ref fI) = some (.type "function"))
    (F1 : FnOk X.prog X.w X.K X.mg X.base CX k fI fd ps sp) (hr : Room (k + 1) X.A)
    (hb : ∀ (s' : Shared) (a : Addr), X.K.In s'.heap → BindsTo s' fd ⟨.ref a :: us, kw⟩ (ps.zip (.ref a :: bs)))
    (hx : Passes CX X E) (I : Inv X pins σ H s) (r : Vals vs bs) (hz : us.length ≤ sizeLine)
    (h : ∀ a, H a = none → sp (.ref a :: vs) (upd H a (exo a C none)) (fun v H2 => v = .non ∧ Q (.ref a) H2) E) :
    wpAny (model X.prog X.w) X.A (call (.ref C) us kw) (EP X pins σ Q) X.xe s := by
  obtain ⟨nm, q, N, bbs, bm, sn, sub, ab, col, dd, k0, k1, k2, k3, k5, hC, hbm⟩ := T.cls
  obtain ⟨hp, g, dr, tk, os⟩ := s
  have hsz : hp.objs.size ≤ hp.objs.size + 1 := Nat.le_succ _
  have hq := h (hp.objs.size + 1) (I.hok.fresh hsz)
  have kk : ∀ b o, hp.get? b = some o → ((hp.push (PySem.W.kdv_tup us)).push (PySem.HandSPX.excO C hp.objs.size)).get? b = some o :=
    fun b o z => Heap.get?_push_of_some _ (Heap.get?_push_of_some _ z)
  have hget : ((hp.push (PySem.W.kdv_tup us)).push (PySem.HandSPX.excO C hp.objs.size)).get? (hp.objs.size + 1) = some (PySem.HandSPX.excO C hp.objs.size) := by
    heap_get
  have I2 := I.laid (t' := tk) (a := hp.objs.size + 1) (o := exo (hp.objs.size + 1) C none) kk hsz (exo_ok hget)
  have r2 : Vals (V.ref (hp.objs.size + 1) :: vs) (Value.ref (hp.objs.size + 1) :: bs) := .cons rfl r
  refine wpAny_call (EKw.callKw hbm (I.kIn _ _ hC) (PySem.W.looks_findIn I.kIn iC) (fun self => PySem.W.bind_fn I.kIn self tI) hz
    (codeAny_mono (F1.run _ X.stack _ _ ⟨Value.ref (hp.objs.size + 1) :: us, kw⟩ _ _ _ E (hr.make C us kw)
      (I2.env0.make C us kw) (hb _ _ I2.kIn) r2 hq) fun r s' hq' => ?_))
  cases r with
  | error er => exact hx pins σ _ _ er s' I2 hq'
  | ok fl =>
    cases fl with
    | ret u =>
      obtain ⟨v, H', I3, rv, ev, q3⟩ := I2.after hq'
      subst ev
      exact ⟨rv, V.ref (hp.objs.size + 1), H', I3, rfl, q3⟩
    | _ => exact False.elim hq'
/-- C(e, ..) -/
theorem pe_err (T : OexC X.K C) (iC : PySem.W.findIn X.K (.ref C) "__init__" = some (some (.ref fI)))
    (tI : PySem.W.typeIn X.K (.ref fI) = some (.type "function"))
    (F1 : FnOk X.prog X.w X.K X.mg X.base CX k fI fd ps sp) (hr : Room (k + 1) X.A) (hb : Binds X.K fd ps []) (hx : Passes CX X E)
    (hg : Gl X x) (hm : X.mg x = some (.ref C)) (ha : PA X (e :: es) t)
    (hdb : (x == ("__debug__" : Str)) = false := by decide)
    (he : starEach (e :: es) X.env = (false, eval e X.env) :: starEach es X.env := by rfl)
    (hpl : (backTo pos (starEach es X.env)).any (·.1) = false := by rfl) :
    PE X (.Call (.Name x p) (e :: es) [] pos) (tErr C sp (fun vs => vs) E t) := by
  refine ⟨fun pins s σ H Q I h => ?_⟩
  refine wpAny_Call_Name_kw (ld_glob I hg hm ?_ hdb)
  refine PySem.W.callWith_K (h₀ := X.base) I.ok.mod.kin T.kC (thn (ha.run pos pins s σ H _ I h) fun us s1 ⟨vs, H1, I1, r1, hz, q1⟩ => ⟨I1.kIn, ?_⟩) he hpl
  show wpAny _ _ (call (.ref C) us) _ _ _
  have hl : vs.length = us.length := r1.length
  refine run_err T iC tI F1 hr (fun s' a X' => ?_) hx I1 r1 ?_ q1
  · have hn := F1.len _ _ _ _ (q1 _ (I1.hok.fresh (Nat.le_refl _)))
    have z := hb s' (.ref a :: us) X' (by
      rw [List.append_nil, ← hn, List.length_cons, List.length_cons, hl])
    rw [List.append_nil] at z
    exact z
  · rw [← hl, sizeLine_eq]
    omega
/-- C(f = e, ..), no argument by position -/
theorem pe_errK {g : List Value → List Value → List Value} {gV : List V → List V → List V} (T : OexC X.K C)
    (iC : PySem.W.findIn X.K (.ref C) "__init__" = some (some (.ref fI)))
    (tI : PySem.W.typeIn X.K (.ref fI) = some (.type "function"))
    (F1 : FnOk X.prog X.w X.K X.mg X.base CX k fI fd ps sp) (hr : Room (k + 1) X.A) (hx : Passes CX X E)
    {gk : List Value → List Value} {gv : List V → List V}
    (hb : ∀ (s' : Shared) (a : Addr) (ws : List Value), X.K.In s'.heap → ws.length = ks.length → BindsTo s' fd ⟨[.ref a], ks.zip ws⟩ (ps.zip (.ref a :: gk ws)))
    (hgv : ∀ {zs : List V} {ws : List Value}, zs.length = ks.length → Vals zs ws → Vals (gv zs) (gk ws))
    (hg : Gl X x) (hm : X.mg x = some (.ref C)) (hkw : PK X kws tk)
    (hall : (backToKw pos (keywordEach kws X.env)).all (·.1.isSome) = true := by rfl)
    (hks : (backToKw pos (keywordEach kws X.env)).filterMap (·.1) = ks := by rfl)
    (hdb : (x == ("__debug__" : Str)) = false := by decide)
    (hpl : ((backTo pos (starEach [] X.env)).any (·.1) || (backToKw pos (keywordEach kws X.env)).any (·.1.isNone)) = false := by rfl) :
    PE X (.Call (.Name x p) [] kws pos) (fun σ H Q => tk σ H fun zs H1 => zs.length = ks.length ∧
      ∀ a, H1 a = none → sp (.ref a :: gv zs) (upd H1 a (exo a C none)) (fun v H2 => v = .non ∧ Q (.ref a) H2) E) := by
  refine ⟨fun pins s σ H Q I h => ?_⟩
  refine wpAny_Call_Name_kw (ld_glob I hg hm ?_ hdb)
  refine PySem.W.callWith_KW0 (h₀ := X.base) I.ok.mod.kin T.kC hall ?_ hpl
  refine thn (hkw.run pos pins s σ H _ I h) fun ws s2 ⟨zs, H2, I2, rz, l2, q2⟩ => ⟨I2.kIn, ?_⟩
  rw [hks]
  have hl : zs.length = ws.length := rz.length
  exact run_err T iC tI F1 hr (fun s' a X' => hb s' a ws X' (by rw [← hl, l2])) hx I2 (hgv l2 rz) (Nat.zero_le _) q2
end
/-! ### a field is read -/
def tEf (K : PySem.W.Frag) (te : TE) (f : Str) : TE := fun σ H Q => te σ H fun x H1 => ∃ a C d fs v, x = .ref a ∧ ErrAt H1 a C d fs ∧ XfC K C ∧
  PySem.W.findIn K (.ref C) f = some none ∧ fs.lookup f = some v ∧ Q v H1
theorem inst_of {X : Cx} {pins : List (Addr × Obj)} {σ : L2.St} {H : Hp} {s : Shared} {a C d : Addr} {fs : List (Str × V)} (I : Inv X pins σ H s) (r : ErrAt H a C d fs) :
    ∃ (ox od : Obj) (mA : Str → Option Value), PySem.W.InstAt s.heap a ox C (some od) ∧ s.heap.get? d = some od ∧ (∀ n, PySem.W.lookIn n od = some (mA n)) ∧ ∀ n, RelO (fs.lookup n) (mA n) := by
  obtain ⟨t1, ha⟩ := exo_at I.hok r.ob
  obtain ⟨mA, hns, rel⟩ := exd_at I.hok r.dc
  obtain ⟨od, ho, hl⟩ := lookIn_ns hns
  exact ⟨_, od, mA, ⟨ha, rfl, rfl, ho⟩, ho, hl, rel⟩
theorem pe_ef {X : Cx} {e : Expr} {te : TE} {pos : Pos} {f : Str} (he : PE X e te) (hb : attributeBase e f X.env (eval e X.env) = eval e X.env := by rfl) :
    PE X (.Attribute e f pos) (tEf X.K te f) := by
  refine ⟨fun pins s σ H Q I h => ?_⟩
  refine attr_of hb (thn (he.run pins s σ H _ I h) fun u s1 hh => ?_)
  obtain ⟨x, H1, I1, rx, a, C, d, fs, v, ex, r, T, hno, l, q⟩ := hh
  subst ex
  obtain rfl : u = Value.ref a := rx
  obtain ⟨ox, od, mA, J, ho, hl, rel⟩ := inst_of I1 r
  obtain ⟨w, hw, rw'⟩ := RelO.some_of (v := v) (o := mA f) (by rw [← l]; exact rel f)
  exact HandSPX.exc_get I1.kIn J T.ga T.gg T.exC (PySem.W.findObj_own T.hdC hno rfl (by rw [hl, hw])) (handed_of rw') ⟨v, H1, I1.tok _, rw', q⟩
/-! ### isinstance -/
/-- an error of the class at C: with an own dict, or without -/
def IsErr (H : Hp) (a C : Addr) : Prop := (∃ d fs, ErrAt H a C d fs) ∨ H a = some (ExO (.ref C) a)
theorem kit_err {X : Cx} {pins : List (Addr × Obj)} {σ : L2.St} {H : Hp} {s : Shared} {a C : Addr} (I : Inv X pins σ H s) (r : IsErr H a C) (T : L2.ExcC X.K C) :
    ∃ P : Heap → Prop, PySem.W.KitX X.K (.ref a) (.ref C) P ∧ P s.heap := by
  have hcl : (PySem.W.clsIn X.K C).isSome = true := by
    obtain ⟨cd, hc, _⟩ := PySem.W.any_some T.hd
    rw [hc]
    rfl
  rcases r with ⟨d, fs, r⟩ | r
  · obtain ⟨ox, od, mA, J, _⟩ := inst_of I r
    exact ⟨_, PySem.W.kitx_exc hcl T.hg T.hk T.hs T.ha T.hn T.ht T.hm, J⟩
  · obtain ⟨⟨oe, vs, ho, hz, hd, _⟩, _, _⟩ := I.hok a _ r
    refine ⟨_, PySem.W.kitx_exc (ox := oe) (od := none) hcl T.hg T.hk T.hs T.ha T.hn T.ht T.hm, ?_⟩
    obtain ⟨oc, od, oda, osl⟩ := oe
    obtain ⟨h1, h2⟩ := hz
    dsimp only at h1 h2 hd
    subst h1 h2 hd
    exact ⟨ho, rfl, rfl, trivial⟩
def rIsErr (K : PySem.W.Frag) : List V → Hp → VK → Prop := fun xs H Q => ∃ (a C : Addr) (c : V) (u : Value) (b : Bool), xs = [.ref a, c] ∧ IsErr H a C ∧ L2.ExcC K C ∧ ClsV c u ∧
  PySem.W.kitOne K (.ref C) u = some b ∧ Q (.bl b) H
def rIsErrT (K : PySem.W.Frag) : List V → Hp → VK → Prop := fun xs H Q => ∃ (a C tp : Addr) (cs : List V) (us : List Value) (b : Bool), xs = [.ref a, .ref tp] ∧ IsErr H a C ∧ L2.ExcC K C ∧
  H tp = some (.tup cs) ∧ Paired ClsV cs us ∧ PySem.W.kitAny K (.ref C) us = some b ∧ Q (.bl b) H
theorem call_isErr {X : Cx} : CallR X (.builtin "isinstance") (rIsErr X.K) := by
  intro pins s σ H xs us Q I r h
  obtain ⟨a, C, c, u, b, rfl, hi, T, k, e, q⟩ := h
  obtain ⟨u1, u2, rfl, r1, r2⟩ := vals2 r
  have e2 := k.eq r2
  subst e2
  cases (show u1 = Value.ref a from r1)
  obtain ⟨P, Z, p⟩ := kit_err I hi T
  exact PySem.W.kia_one Z I.kIn p e (fun z => nomatch z) fun tk => ⟨.bl b, H, I.tok tk, rfl, q⟩
theorem call_isErrT {X : Cx} : CallR X (.builtin "isinstance") (rIsErrT X.K) := by
  intro pins s σ H xs us Q I r h
  obtain ⟨a, C, tp, cs, ws, b, rfl, hi, T, hT, k, e, q⟩ := h
  obtain ⟨u1, u2, rfl, r1, r2⟩ := vals2 r
  cases (show u1 = Value.ref a from r1)
  cases (show u2 = Value.ref tp from r2)
  obtain ⟨P, Z, p⟩ := kit_err I hi T
  obtain ⟨_, its, rv, o, h1, h2, n, h3⟩ := (show ObjOk X.prog X.w H s.heap tp (.tup cs) from I.hok tp _ hT)
  have e3 := ClsV.all k rv
  subst e3
  obtain ⟨oc, od, dt, sl⟩ := o
  simp only at h2 h3
  subst h2 h3
  exact PySem.W.kia_tup Z I.kIn p h1 e (fun z => nomatch z) fun tk => ⟨.bl b, H, I.tok tk, rfl, q⟩
end EV

/-! RepV -/
set_option Elab.async false
set_option linter.all false
set_option maxRecDepth 100000
set_option maxHeartbeats 4000000
/-! What is known of a value all the way down, and repr of it. -/
namespace RV
open PySem PySem.Spec PyProof.Rows L2
def keyD : Key → PyData
  | .inl i => .int i
  | .inr x => .str x
mutual
/-- at v stands the datum d, all the way down -/
inductive Dat (H : Hp) : V → PyData → Prop
  | non : Dat H .non .none
  | bl (b : Bool) : Dat H (.bl b) (.bool b)
  | int (i : Int) : Dat H (.int i) (.int i)
  | str (x : Str) : Dat H (.str x) (.str x)
  | tup {a : Addr} {xs : List V} {ds : List PyData} : H a = some (.tup xs) → Dats H xs ds → Dat H (.ref a) (.tuple ds)
  | lst {a : Addr} {xs : List V} {ds : List PyData} : H a = some (.lst xs) → a ≠ sysModules → Dats H xs ds → Dat H (.ref a) (.list ds)
  | dic {a : Addr} {kvs : List (Key × V)} {kds : List (PyData × PyData)} : H a = some (.dK kvs) → kds.map (·.1) = kvs.map (fun q => keyD q.1) →
      Dats H (kvs.map (·.2)) (kds.map (·.2)) → Dat H (.ref a) (.dict kds)
inductive Dats (H : Hp) : List V → List PyData → Prop
  | nil : Dats H [] []
  | cons {x : V} {d : PyData} {xs : List V} {ds : List PyData} : Dat H x d → Dats H xs ds → Dats H (x :: xs) (d :: ds)
end
mutual
theorem Dat.same {H H' : Hp} (k : ∀ b o, H b = some o → H' b = some o) {v : V} {d : PyData} : Dat H v d → Dat H' v d
  | .non => .non
  | .bl b => .bl b
  | .int i => .int i
  | .str x => .str x
  | .tup e r => .tup (k _ _ e) (r.same k)
  | .lst e n r => .lst (k _ _ e) n (r.same k)
  | .dic e q r => .dic (k _ _ e) q (r.same k)
theorem Dats.same {H H' : Hp} (k : ∀ b o, H b = some o → H' b = some o) {xs : List V} {ds : List PyData} : Dats H xs ds → Dats H' xs ds
  | .nil => .nil
  | .cons r t => .cons (r.same k) (t.same k)
end
theorem vals_of_kv {kvs : List (Key × V)} {vs : List (Key × Value)} (r : KV kvs vs) : kvs.map (·.1) = vs.map (·.1) ∧ Vals (kvs.map (·.2)) (vs.map (·.2)) := by
  induction r with
  | nil => exact ⟨rfl, .nil⟩
  | cons h t ih => exact ⟨by rw [List.map_cons, List.map_cons, ih.1, h.1], .cons h.2 ih.2⟩
theorem pairs_of {P : Program} {w : World} {es : List DictEntry} {vs : List (Key × Value)} (r : Pairs (mixKind P w) es vs) (h : Heap) :
    (∃ as, ReadsAll h (es.map (·.key)) (vs.map fun q => keyD q.1) as ∧ as = []) ∧ es.map (·.val) = vs.map (·.2) := by
  induction r with
  | nil => exact ⟨⟨[], .nil, rfl⟩, rfl⟩
  | @cons e kv es kvs hk hv t ih =>
    obtain ⟨⟨as, ra, ha⟩, iv⟩ := ih
    subst ha
    refine ⟨⟨[], ?_, rfl⟩, by rw [List.map_cons, List.map_cons, hv, iv]⟩
    rw [List.map_cons, List.map_cons]
    rcases keyIs_shape (show keyIs kv.1 e.key = true from hk) with ⟨i, u, e1, e2⟩ | ⟨x, u, e1, e2⟩
    · rw [e1, e2]
      exact .cons (as := []) (bs := []) (.int i u) ra
    · rw [e1, e2]
      exact .cons (as := []) (bs := []) (.str x u) ra
mutual
theorem Dat.reads {P : Program} {w : World} {H : Hp} {h : Heap} (ok : HOk P w H h) {v : V} {d : PyData} {u : Value} : Dat H v d → RelV v u → ∃ as, Reads h u d as ∧ sysModules ∉ as
  | .non, r => by
    cases (show u = Value.none from r)
    exact ⟨[], .none, by simp⟩
  | .bl b, r => by
    cases (show u = Value.bool b from r)
    exact ⟨[], .bool b, by simp⟩
  | .int i, r => by
    obtain ⟨t, rfl⟩ := (show ∃ t, u = Value.int i t from r)
    exact ⟨[], .int i t, by simp⟩
  | .str x, r => by
    obtain ⟨t, rfl⟩ := (show ∃ t, u = Value.str x t from r)
    exact ⟨[], .str x t, by simp⟩
  | .tup (a := a) (xs := xs) e q, r => by
    cases (show u = Value.ref a from r)
    obtain ⟨_, its, rv, o, h1, h2, n, h3⟩ := (show ObjOk P w H h a (.tup xs) from ok a _ e)
    obtain ⟨as, ra, na⟩ := q.reads ok rv
    exact ⟨as, .tuple h1 h2 h3 ra, na⟩
  | .lst (a := a) (xs := xs) e n q, r => by
    cases (show u = Value.ref a from r)
    obtain ⟨_, its, m, rv, h1⟩ := (show ObjOk P w H h a (.lst xs) from ok a _ e)
    obtain ⟨as, ra, na⟩ := q.reads ok rv
    exact ⟨a :: as, .list h1 rfl rfl ra, fun z => by
      rcases List.mem_cons.mp z with z | z
      · exact n z.symm
      · exact na z⟩
  | .dic (a := a) (kvs := kvs) (kds := kds) e q t, r => by
    cases (show u = Value.ref a from r)
    obtain ⟨_, hs, vs, rk, o, es, ep, h1, h2, h3, _, h5, _⟩ := (show ObjOk P w H h a (.dK kvs) from ok a _ e)
    obtain ⟨k1, k2⟩ := vals_of_kv rk
    obtain ⟨⟨as, ra, ha⟩, iv⟩ := pairs_of h5 h
    obtain ⟨bs, rb, nb⟩ := t.reads ok k2
    subst ha
    refine ⟨a :: [] ++ bs, .dict h1 h2.1 h3 (as := []) (bs := bs) ?_ ?_, fun z => ?_⟩
    · have e2 : kds.map (·.1) = vs.map fun q => keyD q.1 := by
        rw [q, show (kvs.map fun q => keyD q.1) = (kvs.map (·.1)).map keyD by rw [List.map_map]; rfl, k1, List.map_map]
        rfl
      rw [e2]
      exact ra
    · rw [iv]
      exact rb
    · rcases List.mem_cons.mp z with z | z
      · exact (beq_eq_false_iff_ne.mp hs) z.symm
      · exact nb z
theorem Dats.reads {P : Program} {w : World} {H : Hp} {h : Heap} (ok : HOk P w H h) {xs : List V} {ds : List PyData} {us : List Value} : Dats H xs ds → Vals xs us → ∃ as, ReadsAll h us ds as ∧ sysModules ∉ as
  | .nil, r => by
    cases r
    exact ⟨[], .nil, by simp⟩
  | .cons q t, r => by
    cases r with
    | cons r1 r2 =>
      obtain ⟨as, ra, na⟩ := q.reads ok r1
      obtain ⟨bs, rb, nb⟩ := t.reads ok r2
      exact ⟨as ++ bs, .cons ra rb, fun z => (List.mem_append.mp z).elim na nb⟩
end
/-- repr of a container -/
def rRepr : List V → Hp → VK → Prop := fun xs H Q => ∃ a d, xs = [.ref a] ∧ Dat H (.ref a) d ∧ d.showable = true ∧ d.depth ≤ 20 ∧ d.shown.length ≤ sizeLine ∧ Q (.str d.shown) H
theorem call_repr {X : Cx} (hg : X.A.guards = some []) (hu : X.A.units + 64 < cLine) : CallR X (.builtin "repr") rRepr := by
  intro pins s σ H xs us Q I r h
  obtain ⟨a, d, rfl, D, hs, hd, hz, q⟩ := h
  cases r with
  | cons r1 r2 =>
    cases r2
    obtain ⟨as, ra, na⟩ := D.reads I.hok r1
    cases (show _ = Value.ref a from r1)
    exact repr_of_reads' ra hs (fun _ => na) hg (by omega) (fun _ _ e => e) (fun h' u tk k => ⟨.str d.shown, H, I.kept (t' := tk) k, ⟨_, rfl⟩, q⟩) hz
/-- a list display: the new list is not the table of modules -/
theorem pe_lst1 {X : Cx} {es : List Expr} {t : TA} {pos : Pos} (h : PA X es t) :
    PE X (.List es pos) (fun σ H Q => t σ H fun xs H1 => xs.length ≤ sizeLine ∧ ∀ p, H1 p = none → p ≠ sysModules → Q (.ref p) (upd H1 p (.lst xs))) := by
  refine ⟨fun pins s σ H Q I hq => ?_⟩
  refine wpAny_List_spliced (thn (h.run pos pins s σ H _ I hq) fun us s1 ⟨xs, H1, I1, r, z, q⟩ => ⟨by rw [← r.length]; exact z, ?_⟩)
  refine ⟨.ref s1.heap.objs.size, _, I1.laid (t' := s1.toks) (o := .lst xs) (fun b u e => Heap.get?_push_of_some _ e) (Nat.le_refl _) ⟨z, us, 0, r, Heap.get?_push_size _ rfl⟩, rfl,
    q _ (I1.hok.fresh (Nat.le_refl _)) (Nat.ne_of_gt I1.big)⟩
/-- a list so many times -/
def rMulL : R2 := fun x y H Q => ∃ l k xs, x = .ref l ∧ y = .int k ∧ H l = some (.lst xs) ∧ xs ≠ [] ∧ 0 ≤ k ∧ k ≤ 1000 ∧ xs.length ≤ 1000 ∧
  ∀ p, H p = none → p ≠ sysModules → Q (.ref p) (upd H p (.lst (List.replicate k.toNat xs).flatten))
theorem op_mulL {X : Cx} : OpR X (binaryOp .Mult) rMulL := by
  intro pins s σ H x y v u Q I rx ry h
  obtain ⟨l, k, xs, rfl, rfl, hT, hne, h1, h2, hz, q⟩ := h
  cases rx
  obtain ⟨t, rfl⟩ := ry
  obtain ⟨_, its, n, r, ho⟩ := (show ObjOk X.prog X.w H s.heap l (.lst xs) from I.hok l _ hT)
  have hle : its.length = xs.length := r.length.symm
  have hi : its.toArray.isEmpty = false := by
    cases its with
    | nil => exact absurd (List.eq_nil_of_length_eq_zero hle.symm) hne
    | cons a b => rfl
  have hm : xs.length * k.toNat ≤ 1000 * 1000 := Nat.mul_le_mul hz (by omega)
  have hsz : its.toArray.size = xs.length := by rw [List.size_toArray, hle]
  refine wpAny_binaryOp_repeat_ref (T := "list") (U := "int") (by decide) ⟨_, ho, rfl⟩ (fun s' => typeIs_int s' k t) noFill_list_mul F.fills_int_mul F.slot_int_rmul repeat_list F.slot_int_index.lookup
    (call_meets F.slot_int_rmul (typeIs_int s k t) F.entry_int_rmul (F.args_int_rmul_2 _ _) (int___rmul___int_list k t l its.toArray n)
      ⟨ho, rfl, ⟨_, ho, rfl⟩, call_meets F.slot_list_mul ⟨_, ho, rfl⟩ F.entry_list_mul (F.args_list_mul_2 _ _)
        (AutoListH.list___mul___list_int_3 l its.toArray n k t (by simp [Builtin.List.listFitsIndex]; omega) (by rw [hsz]; omega) (by rw [hsz]; simp [Builtin.List.listTooLong, sizeLine]; omega)) ⟨ho, ?_⟩⟩)
  rw [hi, if_neg Bool.false_ne_true, size_rep]
  refine ⟨.ref s.heap.objs.size, _, I.laid (t' := s.toks) (o := .lst (List.replicate k.toNat xs).flatten) (fun b ob q => Heap.get?_push_of_some _ q) (Nat.le_refl _) ?_, rfl, q _ (I.hok.fresh (Nat.le_refl _)) (Nat.ne_of_gt I.big)⟩
  refine ⟨?_, _, 0, r.rep k.toNat, Heap.get?_push_size _ rfl⟩
  rw [PyProof.Rows.lm_len_rep_flat, sizeLine_eq]
  have := Nat.mul_comm k.toNat xs.length
  omega
end RV

/-! K1Head -/
set_option Elab.async false
set_option linter.all false
set_option maxRecDepth 100000
set_option maxHeartbeats 0
namespace K1
open PySem PySem.Spec PyProof.Rows L2
abbrev prog : Program := PySem.Challenge.pw_editionlines_k01_errors_and_their_fields
def top (i : Nat) : Stmt := prog.main.body.getD i (.Pass ⟨0, 0, 0, 0⟩)
abbrev sLaw : Stmt := top 44
def dL : He.DefD := ⟨("law", none), "law", "law", defArgs sLaw, defBody sLaw, defScope sLaw, [], []⟩
def fn : List He.DefD := [dL]
def fa : List He.Fa := [.glo "law", .free "len"]
abbrev R : PySem.W.OpenRow := PySem.W.OpenLaw.row PySem.Challenge.rw_editionlines_k01_errors_and_their_fields
abbrev hk : PySem.W.Hook := He.hookD 4 fa fn
def ob (s : PySem.W.SharedT) : He.AlD := He.obsDG 4 fa fn (HandSHeadRun.getT s)
theorem ob_eq (s : PySem.W.SharedT) : ob s = hk.obs s.abs := He.obsDG_eq (HandSHeadRun.getT_eq s)
def loose1 : List Str := ["EditionError", "BadInput", "NoAnswer", "BadBook", "BadClause", "BadDeed", "BadFact", "BadFix", "BadHistory", "BadLine", "BadLiteral", "BadLot", "BadNeeds", "BadNumber", "BadPlace", "BadPrice", "BadProject", "BadStanding", "BadText", "BadWay", "BadWeb", "BadWish", "NoDay", "NoFix", "NoLine", "NoRelease", "Ring", "Barred", "Nothing", "TooMany", "Undone", "Unlike"]
def loose2 : List Str := ["_law_pen", "_law_draw", "_law_pick", "_law_some", "_law_parted", "_law_valued", "_law_named", "_law_kinds", "_law_is_alone", "_law_two_right"]
abbrev loose : List Str := loose1 ++ loose2
end K1

/-! K1Draw -/
set_option Elab.async false
set_option linter.all false
set_option maxRecDepth 100000
set_option maxHeartbeats 4000000
/-! The draws of the law: the pen, a draw, a pick. -/
namespace K1
open PySem PySem.Spec PyProof.Rows L2
abbrev sPen : Stmt := top 34
abbrev sDraw : Stmt := top 35
abbrev sPick : Stmt := top 36
abbrev FnP (K : PySem.W.Frag) (x : Str) (st : Stmt) (f : Addr) (fd : FuncData) : Prop := FunD K x x (defArgs st) (defBody st) (defScope st) [] [] f fd
/-- a pen at p: its cells at a, how many were taken, what is left of a great one -/
structure Pen (H : Hp) (p a : Addr) (cs : List Int) (b g : Int) : Prop where
  pn : H p = some (.lst [.ref a, .int b, .int g])
  ce : H a = some (.lst (cs.map V.int))
  b0 : 0 ≤ b
  g0 : 0 ≤ g
  ln : cs.length ≤ 63
theorem Pen.ne {H : Hp} {p a : Addr} {cs : List Int} {b g : Int} (P : Pen H p a cs b g) : a ≠ p := fun e => by
  have z := P.ce
  rw [e, P.pn] at z
  cases cs with
  | nil => cases z
  | cons c cs => cases z
def spDraw : Sp := fun vs H Q _ => ∃ (p a : Addr) (cs : List Int) (b g many : Int), vs = [.ref p, .int many] ∧ Pen H p a cs b g ∧ b ≤ 1000 ∧ 0 < many ∧ many < 1000 ∧
  ∀ (r b' g' : Int) (H' : Hp), 0 ≤ r → r < many → b' ≤ b + 1 → Pen H' p a cs b' g' → (∀ c o, c ≠ p → H c = some o → H' c = some o) → Q (.int r) H'
/-- the built-ins that are still themselves -/
structure Blt (mg : Str → Option Value) : Prop where
  int : mg "int" = none
  len : mg "len" = none
  abs : mg "abs" = none
  list : mg "list" = none
section
variable {P : Program} {w : World} {K : PySem.W.Frag} {mg : Str → Option Value} {base : Heap} {f : Addr} {fd : FuncData}
theorem scDraw : FnScope ["_law_pen_here", "_law_many", "_law_digit", "_law_begun", "_law_raw", "_law_great", "_law_stirred"] ["_law_pen_here", "_law_many"] (defScope sDraw) :=
  ⟨rfl, rfl, rfl, by decide +kernel, rfl, by decide +kernel, by decide +kernel⟩
theorem canLay_ints (cs : List Int) : PyData.canLayAll0 (cs.map PyData.int) = true := by
  induction cs with
  | nil => rfl
  | cons c cs ih => simp [PyData.canLayAll0, PyData.canLay0, ih]
theorem depth_ints (cs : List Int) : PyData.depthAll (cs.map PyData.int) = 0 := by
  induction cs with
  | nil => rfl
  | cons c cs ih => simp [PyData.depthAll, PyData.depth, ih]
theorem shaped_ints (cs : List Int) : SeqAt.shaped (.list (cs.map .int)) = true := by
  simp [SeqAt.shaped, PyData.canLay0, PyData.depth, canLay_ints, depth_ints]
theorem dp_ints {K : PySem.W.Frag} {H : Hp} (cs : List Int) : DpAll K H (cs.map V.int) (cs.map PyData.int) := by
  induction cs with
  | nil => exact .nil
  | cons c cs ih => exact .cons (.int c) ih
theorem great0 {R many : Int} (h : decide ((10 : Int) ^ Int.toNat 18 ≤ if R < 0 then -R else R) = true) (hm : 0 < many) :
    0 ≤ (2 * ((if R < 0 then -R else R) - (10 : Int) ^ Int.toNat 18) + if decide (R < 0) = true then 1 else 0) / many := by
  have h2 := of_decide_eq_true h
  refine Int.ediv_nonneg ?_ (by omega)
  split <;> omega
theorem cpow5 (R : Int) {b : Int} (h0 : 0 ≤ b) (h1 : b ≤ 1000) : CPow (R % 2147483543 + 60900 * b + 1920) 5 := by
  have a1 := Int.emod_nonneg R (show (2147483543 : Int) ≠ 0 by decide)
  have a2 := Int.emod_lt_of_pos R (show (0 : Int) < 2147483543 by decide)
  refine ⟨by decide, by decide, ?_⟩
  omega
theorem cmul1 (x y : Int) : CMul (x % 2147483497) y := by
  have a1 := Int.emod_nonneg x (show (2147483497 : Int) ≠ 0 by decide)
  have a2 := Int.emod_lt_of_pos x (show (0 : Int) < 2147483497 by decide)
  exact .inl ⟨by omega, by omega⟩
theorem cpow3 (x : Int) {b : Int} (h0 : 0 ≤ b) (h1 : b ≤ 1000) : CPow (x % 2147483497 * (2 * b + 1091) + 51816 * b * b + 41964) 3 := by
  have a1 := Int.emod_nonneg x (show (2147483497 : Int) ≠ 0 by decide)
  have a2 := Int.emod_lt_of_pos x (show (0 : Int) < 2147483497 by decide)
  have b1 : x % 2147483497 * (2 * b + 1091) ≤ 2147483497 * (2 * b + 1091) := Int.mul_le_mul_of_nonneg_right (by omega) (by omega)
  have b2 : 0 ≤ x % 2147483497 * (2 * b + 1091) := Int.mul_nonneg a1 (by omega)
  have b3 : 51816 * b * b ≤ 51816 * b * 1000 := Int.mul_le_mul_of_nonneg_left h1 (by omega)
  have b4 : 0 ≤ 51816 * b * b := Int.mul_nonneg (by omega) h0
  refine ⟨by decide, by decide, ?_⟩
  omega
theorem ok_draw (F : FnP K "_law_draw" sDraw f fd) (T : Blt mg) : FnOk P w K mg base CX0 1 f fd ["_law_pen_here", "_law_many"] spDraw := by
  refine F.ok scDraw (fun vs H Q E h => ?_) (fun cdv A outer s H vs Q E hr h => ?_)
  · obtain ⟨p, a, cs, b, g, many, rfl, _⟩ := h
    rfl
  · obtain ⟨p, a, cs, b, g, many, rfl, N, hb, hm0, hm1, k⟩ := h
    have hu := hr.units
    refine ⟨_, PSs.nox (pss_cons (ps_if (pt_cmpR op_gt (pe_ix ix_list (pv 0) pe_int (fun _ _ => rfl)) pe_int (nomark _))
        (pss_cons (ps_set (i := 2) scDraw.nd rfl (.inl rfl) (pe_op op_mod (pe_callTy call_int1 (by rfl) T.int boot_int (pa_cons (pe_ix ix_list (pv 0) pe_int (fun _ _ => rfl)) pa_nil)) (pv 1)))
        (pss_cons (ps_asg (pe_op op_fdiv (pe_callTy call_int1 (by rfl) T.int boot_int (pa_cons (pe_ix ix_list (pv 0) pe_int (fun _ _ => rfl)) pa_nil)) (pv 1)) (pg_sub (pv 0) pe_int set_list))
        (pss_one (ps_ret (pv 2))))) pss_nil)
      (pss_cons (ps_set (i := 3) scDraw.nd rfl (.inl rfl) (pe_ix ix_list (pv 0) pe_int (fun _ _ => rfl)))
      (pss_cons (ps_asg (pe_op op_add (pv 3) pe_int) (pg_sub (pv 0) pe_int set_list))
      (pss_cons (ps_set (i := 4) scDraw.nd rfl (.inl rfl) (pe_op op_add (pe_op op_mul pe_int (pv 3)) pe_int))
      (pss_cons (ps_if (pt_cmpR (op_neD hu) (pe_ix ix_list (pv 0) pe_int (fun _ _ => rfl)) (pe_lst pa_nil) (nomark _))
        (pss_one (ps_set (i := 4) scDraw.nd rfl (.inl rfl) (pe_ix ix_list (pe_ix ix_list (pv 0) pe_int (fun _ _ => rfl))
          (pe_op op_mod (pe_callTy call_int1 (by rfl) T.int boot_int (pa_cons (pv 3) pa_nil)) (pe_callB call_len_seq (by rfl) T.len PySem.boot_len (pa_cons (pe_ix ix_list (pv 0) pe_int (fun _ _ => rfl)) pa_nil))) (fun _ _ => rfl)))) pss_nil)
      (pss_cons (ps_if (PW.pt (pw_and (pt_cmpR op_lt (pv 3) (pe_callB call_len_seq (by rfl) T.len PySem.boot_len (pa_cons (pe_ix ix_list (pv 0) pe_int (fun _ _ => rfl)) pa_nil)) (nomark _))
          (pw_and1 (pt_cmpR op_ge (pe_callB call_abs (by rfl) T.abs boot_abs (pa_cons (pv 4) pa_nil)) (pe_op op_pow pe_int pe_int) (nomark _)))))
        (pss_cons (ps_set (i := 5) scDraw.nd rfl (.inl rfl) (pe_op op_add (pe_op op_mul pe_int (pe_op op_sub (pe_callB call_abs (by rfl) T.abs boot_abs (pa_cons (pv 4) pa_nil)) (pe_op op_pow pe_int pe_int)))
            (pe_callTy call_int1 (by rfl) T.int boot_int (pa_cons (pe_cmpR op_lt (pv 4) pe_int (nomark _)) pa_nil))))
        (pss_cons (ps_asg (pe_op op_fdiv (pe_callTy call_int1 (by rfl) T.int boot_int (pa_cons (pv 5) pa_nil)) (pv 1)) (pg_sub (pv 0) pe_int set_list))
        (pss_one (ps_ret (pe_op op_mod (pe_callTy call_int1 (by rfl) T.int boot_int (pa_cons (pv 5) pa_nil)) (pv 1)))))) pss_nil)
      (pss_cons (ps_set (i := 6) scDraw.nd rfl (.inl rfl) (pe_op op_mod (pe_callTy call_int1 (by rfl) T.int boot_int (pa_cons (pe_op op_pow (pe_op op_add (pe_op op_add
          (pe_op op_mod (pe_callTy call_int1 (by rfl) T.int boot_int (pa_cons (pv 4) pa_nil)) pe_int) (pe_op op_mul pe_int (pv 3))) pe_int) pe_int) pa_nil)) pe_int))
      (pss_cons (ps_set (i := 6) scDraw.nd rfl (.inl rfl) (pe_op op_mod (pe_callTy call_int1 (by rfl) T.int boot_int (pa_cons (pe_op op_pow (pe_op op_add (pe_op op_add
          (pe_op op_mul (pv 6) (pe_op op_add (pe_op op_mul pe_int (pv 3)) pe_int)) (pe_op op_mul (pe_op op_mul pe_int (pv 3)) (pv 3))) pe_int) pe_int) pa_nil)) pe_int))
      (pss_one (ps_ret (pe_op op_mod (pe_callTy call_int1 (by rfl) T.int boot_int (pa_cons (pe_op op_fdiv (pv 6) pe_int) pa_nil)) (pv 1)))))))))))), ?_⟩
    refine ⟨_, rfl, p, _, _, _, rfl, rfl, SqL.of N.pn, atI_nat (j := 2) rfl, _, _, rfl, rfl, _, rfl, ?_⟩
    refine ite2 (fun hg => ?_) (fun hg => ?_)
    · refine ⟨_, rfl, p, _, _, _, rfl, rfl, SqL.of N.pn, atI_nat (j := 2) rfl, .inl ⟨_, rfl, _, rfl, _, _, rfl, rfl, hm0, ?_⟩⟩
      refine ⟨_, rfl, p, _, _, _, rfl, rfl, SqL.of N.pn, atI_nat (j := 2) rfl, .inl ⟨_, rfl, _, rfl, _, _, rfl, rfl, ⟨hm0, by omega⟩, _, rfl, p, _, _, _, rfl, rfl, N.pn, rfl, ?_⟩⟩
      refine ⟨_, rfl, k (g % many) b (g / many) _ (Int.emod_nonneg _ (by omega)) (Int.emod_lt_of_pos _ hm0) (by omega)
        ⟨upd_same, by rw [upd_ne N.ne]; exact N.ce, N.b0, Int.ediv_nonneg N.g0 (by omega), N.ln⟩ fun c o hc e => by rw [upd_ne hc]; exact e⟩
    · refine ⟨_, rfl, p, _, _, _, rfl, rfl, SqL.of N.pn, atI_nat (j := 1) rfl, ?_⟩
      refine ⟨_, rfl, _, _, rfl, rfl, _, rfl, p, _, _, _, rfl, rfl, N.pn, rfl, ?_⟩
      have N1 : Pen (upd H p (.lst [.ref a, .int (b + 1), .int g])) p a cs (b + 1) g :=
        ⟨upd_same, by rw [upd_ne N.ne]; exact N.ce, by have := N.b0; omega, N.g0, N.ln⟩
      refine ⟨_, rfl, _, _, rfl, rfl, .inl ⟨by decide, by decide⟩, _, _, rfl, rfl, ?_⟩
      refine ⟨_, rfl, p, _, _, _, rfl, rfl, SqL.of N1.pn, atI_nat (j := 0) rfl, Nat.zero_le _, fun q hq => ?_⟩
      have qp : p ≠ q := ne_of_none N1.pn hq
      have qa : a ≠ q := ne_of_none N1.ce hq
      have N2 : Pen (upd (upd H p (.lst [.ref a, .int (b + 1), .int g])) q (.lst [])) p a cs (b + 1) g :=
        ⟨by rw [upd_ne qp]; exact N1.pn, by rw [upd_ne qa]; exact N1.ce, N1.b0, N1.g0, N1.ln⟩
      have keep2 : ∀ c o, c ≠ p → H c = some o → upd (upd H p (.lst [.ref a, .int (b + 1), .int g])) q (.lst []) c = some o := fun c o hc e => by
        have e1 : upd H p (.lst [.ref a, .int (b + 1), .int g]) c = some o := by rw [upd_ne hc]; exact e
        rw [upd_ne (ne_of_none e1 hq)]
        exact e1
      refine ⟨.list (cs.map .int), .list [], .lst (SqL.of N2.ce) (dp_ints cs), .lst (SqL.of upd_same) .nil, shaped_ints cs, by decide, _, rfl, ?_⟩
      have two : (PyData.list (cs.map .int)).eqv (.list []) = true ∨ ((PyData.list (cs.map .int)).eqv (.list []) = false ∧ ∃ c, atI (cs.map V.int) (b % ((cs.map V.int).length : Int)) = some (.int c) ∧ (0 : Int) < ((cs.map V.int).length : Int)) := by
        cases cs with
        | nil => exact .inl rfl
        | cons c0 cs =>
          refine .inr ⟨rfl, ?_⟩
          have hl : (0 : Int) < (((c0 :: cs).map V.int).length : Int) := by rw [List.length_map, List.length_cons]; omega
          obtain ⟨j, hj⟩ := Int.eq_ofNat_of_zero_le (Int.emod_nonneg b (Int.ne_of_gt hl))
          have hlt := Int.emod_lt_of_pos b hl
          have hj2 : j < (c0 :: cs).length := by rw [hj, List.length_map] at hlt; exact Int.ofNat_lt.mp hlt
          refine ⟨(c0 :: cs)[j], ?_, hl⟩
          rw [hj]
          refine atI_nat ?_
          rw [List.getElem?_map, List.getElem?_eq_getElem hj2]
          rfl
      show if (!(PyData.list (cs.map .int)).eqv (.list [])) = true then _ else _
      rcases two with e | ⟨e, c, hc, hl⟩
      case' inl =>
        rw [e]
        refine iteF ?_
      case' inr =>
        rw [e]
        refine iteT ?_
        refine ⟨_, rfl, p, _, _, _, rfl, rfl, SqL.of N2.pn, atI_nat (j := 0) rfl, _, rfl, .inl ⟨_, rfl, _, rfl, p, _, _, _, rfl, rfl, SqL.of N2.pn, atI_nat (j := 0) rfl, a, _, rfl, .inl (SqL.of N2.ce), _, _, rfl, rfl, hl, a, _, _, _, rfl, rfl, SqL.of N2.ce, hc, ?_⟩⟩
      all_goals
        refine ⟨_, rfl, _, rfl, p, _, _, _, rfl, rfl, SqL.of N2.pn, atI_nat (j := 0) rfl, a, _, rfl, .inl (SqL.of N2.ce), _, _, rfl, rfl, _, rfl, ?_⟩
        refine ite2 (fun h1 => ?_) (fun h1 => ?_)
        · refine ⟨_, rfl, _, rfl, _, _, rfl, rfl, ⟨by decide, by decide, by decide⟩, _, _, rfl, rfl, _, rfl, ?_⟩
          refine ite2 (fun h2 => ?_) (fun h2 => ?_)
          · refine ⟨_, rfl, _, rfl, _, _, rfl, rfl, ⟨by decide, by decide, by decide⟩, _, _, rfl, rfl, _, _, rfl, rfl, .inl ⟨by decide, by decide⟩, _, rfl, _, _, rfl, rfl, .inr ⟨_, rfl, _, _, rfl, rfl, ?_⟩⟩
            refine ⟨_, rfl, .inl ⟨_, rfl, _, rfl, _, _, rfl, rfl, ⟨hm0, by omega⟩, _, rfl, p, _, _, _, rfl, rfl, N2.pn, rfl, ?_⟩⟩
            refine ⟨_, rfl, .inl ⟨_, rfl, _, rfl, _, _, rfl, rfl, hm0, ?_⟩⟩
            refine k _ (b + 1) _ _ (Int.emod_nonneg _ (by omega)) (Int.emod_lt_of_pos _ hm0) (by omega)
              ⟨upd_same, by rw [upd_ne N2.ne]; exact N2.ce, N2.b0, great0 h2 hm0, N2.ln⟩ fun c o hc e => by rw [upd_ne hc]; exact keep2 c o hc e
          · refine ⟨_, rfl, .inl ⟨_, rfl, _, _, rfl, rfl, (by show (0 : Int) < _; decide), _, rfl, _, _, rfl, rfl, .inl ⟨by decide, by decide⟩, _, _, rfl, rfl, _, _, rfl, rfl, _, _, rfl, rfl, cpow5 _ N.b0 hb, .inl ⟨_, rfl, _, _, rfl, rfl, (by show (0 : Int) < _; decide), ?_⟩⟩⟩
            refine ⟨_, rfl, _, rfl, _, _, rfl, rfl, .inl ⟨by decide, by decide⟩, _, _, rfl, rfl, _, _, rfl, rfl, cmul1 _ _, _, rfl, _, _, rfl, rfl, .inl ⟨by decide, by decide⟩, _, rfl, _, _, rfl, rfl, .inr ⟨by have := N.b0; omega, by omega⟩, _, _, rfl, rfl, _, _, rfl, rfl, _, _, rfl, rfl, cpow3 _ N.b0 hb, .inl ⟨_, rfl, _, _, rfl, rfl, (by show (0 : Int) < _; decide), ?_⟩⟩
            refine ⟨_, rfl, _, _, rfl, rfl, ⟨by decide, by decide⟩, .inl ⟨_, rfl, _, rfl, _, _, rfl, rfl, hm0, ?_⟩⟩
            exact k _ (b + 1) g _ (Int.emod_nonneg _ (by omega)) (Int.emod_lt_of_pos _ hm0) (by omega) N2 keep2
        · refine ⟨_, rfl, .inl ⟨_, rfl, _, _, rfl, rfl, (by show (0 : Int) < _; decide), _, rfl, _, _, rfl, rfl, .inl ⟨by decide, by decide⟩, _, _, rfl, rfl, _, _, rfl, rfl, _, _, rfl, rfl, cpow5 _ N.b0 hb, .inl ⟨_, rfl, _, _, rfl, rfl, (by show (0 : Int) < _; decide), ?_⟩⟩⟩
          refine ⟨_, rfl, _, rfl, _, _, rfl, rfl, .inl ⟨by decide, by decide⟩, _, _, rfl, rfl, _, _, rfl, rfl, cmul1 _ _, _, rfl, _, _, rfl, rfl, .inl ⟨by decide, by decide⟩, _, rfl, _, _, rfl, rfl, .inr ⟨by have := N.b0; omega, by omega⟩, _, _, rfl, rfl, _, _, rfl, rfl, _, _, rfl, rfl, cpow3 _ N.b0 hb, .inl ⟨_, rfl, _, _, rfl, rfl, (by show (0 : Int) < _; decide), ?_⟩⟩
          refine ⟨_, rfl, _, _, rfl, rfl, ⟨by decide, by decide⟩, .inl ⟨_, rfl, _, rfl, _, _, rfl, rfl, hm0, ?_⟩⟩
          exact k _ (b + 1) g _ (Int.emod_nonneg _ (by omega)) (Int.emod_lt_of_pos _ hm0) (by omega) N2 keep2
end
end K1

/-! K1Some -/
set_option Elab.async false
set_option linter.all false
set_option maxRecDepth 100000
set_option maxHeartbeats 4000000
namespace K1
open PySem PySem.Spec PyProof.Rows L2 RV
abbrev sSome : Stmt := top 37
theorem same_new {H : Hp} {p : Addr} {o : HO} (n : H p = none) : Same H (upd H p o) := fun b u e => by
  rw [upd_ne (ne_of_none e n)]
  exact e
theorem Pen.same {H H' : Hp} {p a : Addr} {cs : List Int} {b g : Int} (P : Pen H p a cs b g) (k : Same H H') : Pen H' p a cs b g :=
  ⟨k _ _ P.pn, k _ _ P.ce, P.b0, P.g0, P.ln⟩
/-- a heap without p -/
def mn (H : Hp) (p : Addr) : Hp := fun c => if c = p then none else H c
theorem mn_same {H : Hp} {p : Addr} : mn H p p = none := if_pos rfl
theorem mn_ne {H : Hp} {p c : Addr} (h : c ≠ p) : mn H p c = H c := if_neg h
theorem mn_at {H : Hp} {p c : Addr} {o u : HO} (hp : H p = some u) (hc : H c = some o) (d : o ≠ u) : mn H p c = some o := by
  rw [mn_ne (ne_of hc hp d)]
  exact hc
theorem _root_.RV.Dats.mem {H : Hp} {xs : List V} {ds : List PyData} (r : Dats H xs ds) {x : V} (hx : x ∈ xs) : ∃ d ∈ ds, Dat H x d := by
  induction xs generalizing ds with
  | nil => cases hx
  | cons y ys ih =>
    cases r with
    | @cons _ d _ ds r1 r2 =>
      rcases List.mem_cons.mp hx with e | e
      · exact ⟨d, List.mem_cons_self, by rw [e]; exact r1⟩
      · obtain ⟨d', h1, h2⟩ := ih r2 e
        exact ⟨d', List.mem_cons_of_mem _ h1, h2⟩
def spPen (K : PySem.W.Frag) : Sp := fun vs H Q _ => ∃ (s : Addr) (ns : List Int), vs = [.ref s] ∧ SqL K H s (ns.map V.int) ∧ ns.length ≤ 63 ∧
  ∀ (p a : Addr) (cs : List Int) (H' : Hp), Pen H' p a cs 0 0 → Same H H' → Q (.ref p) H'
def spPick : Sp := fun vs H Q _ => ∃ (p a l : Addr) (cs : List Int) (b g : Int) (xs : List V), vs = [.ref p, .ref l] ∧ Pen H p a cs b g ∧ b ≤ 1000 ∧ l ≠ p ∧ H l = some (.lst xs) ∧
  xs ≠ [] ∧ xs.length < 1000 ∧
  ∀ (x : V) (b' g' : Int) (H' : Hp), x ∈ xs → b' ≤ b + 1 → Pen H' p a cs b' g' → (∀ c o, c ≠ p → H c = some o → H' c = some o) → Q x H'
section
variable {P : Program} {w : World} {K : PySem.W.Frag} {mg : Str → Option Value} {base : Heap} {f fD : Addr} {fd fdD : FuncData}
theorem scPen : FnScope ["_law_script"] ["_law_script"] (defScope sPen) := ⟨rfl, rfl, rfl, by decide +kernel, rfl, by decide +kernel, by decide +kernel⟩
theorem cut_ints (ns : List Int) (lo hi : Option Int) : ∃ cs : List Int, cutV (ns.map V.int) lo hi = cs.map V.int ∧ cs.length ≤ ns.length := by
  refine ⟨(ns.drop (HT.sIx (ns.map V.int).length 0 lo)).take (HT.sIx (ns.map V.int).length (ns.map V.int).length hi - HT.sIx (ns.map V.int).length 0 lo), ?_, ?_⟩
  · rw [List.map_take, List.map_drop]
    rfl
  · rw [List.length_take, List.length_drop]
    omega
theorem ok_pen (F : FnP K "_law_pen" sPen f fd) (T : Blt mg) : FnOk P w K mg base CX0 1 f fd ["_law_script"] (spPen K) := by
  refine F.ok scPen (fun vs H Q E h => ?_) (fun cdv A outer s H vs Q E hr h => ?_)
  · obtain ⟨a, ns, rfl, _⟩ := h
    rfl
  · obtain ⟨a, ns, rfl, hS, hl, k⟩ := h
    refine ⟨_, PSs.nox (pss_one (ps_ret (pe_lst (pa_cons (pe_callTy call_list_of (by rfl) T.list boot_list (pa_cons (pe_slice sl_list (pv 0) po_none (po_some pe_int)) pa_nil)) (pa_cons pe_int (pa_cons pe_int pa_nil)))))), ?_⟩
    obtain ⟨cs, e, hc⟩ := cut_ints ns none (some 63)
    refine ⟨_, rfl, _, rfl, a, _, rfl, hS, fun q hq => ?_⟩
    rw [e]
    refine ⟨q, _, rfl, .inl (SqL.of upd_same), fun r hr' => ⟨(by show 3 ≤ sizeLine; decide), fun p hp => ?_⟩⟩
    have n1 := ne_of_none (upd_same (H := upd H q (.lst (cs.map V.int))) (a := r) (o := .lst (cs.map V.int))) hp
    refine k p r cs _ ⟨upd_same, by rw [upd_ne n1, upd_same], Int.le_refl _, Int.le_refl _, by omega⟩ ((same_new hq).trans ((same_new hr').trans (same_new hp)))
theorem scPick : FnScope ["_law_pen_here", "_law_some_here"] ["_law_pen_here", "_law_some_here"] (defScope sPick) := ⟨rfl, rfl, rfl, by decide +kernel, rfl, by decide +kernel, by decide +kernel⟩
theorem ok_pick (F : FnP K "_law_pick" sPick f fd) (T : Blt mg) (FD : FnP K "_law_draw" sDraw fD fdD) (gD : mg "_law_draw" = some (.ref fD)) :
    FnOk P w K mg base CX0 2 f fd ["_law_pen_here", "_law_some_here"] spPick := by
  have GD : FnOk P w K mg base CX0 1 fD fdD ["_law_pen_here", "_law_many"] spDraw := ok_draw FD T
  have bD : Binds K fdD ["_law_pen_here", "_law_many"] [] := FD.bindsN fun _ _ _ _ _ _ us hl => match us, hl with | [_, _], _ => rfl
  refine F.ok scPick (fun vs H Q E h => ?_) (fun cdv A outer s H vs Q E hr h => ?_)
  · obtain ⟨p, a, l, cs, b, g, xs, rfl, _⟩ := h
    rfl
  · obtain ⟨p, a, l, cs, b, g, xs, rfl, N, hb, nl, hL, hx, hz, k⟩ := h
    refine ⟨_, PSs.nox (pss_one (ps_ret (pe_ix ix_list (pv 1) (pe_call GD hr (by rfl) gD FD.kp bD .nil pass0 (pa_cons (pv 0) (pa_cons (pe_callB call_len_seq (by rfl) T.len PySem.boot_len (pa_cons (pv 1) pa_nil)) pa_nil))) (fun _ _ => rfl)))), ?_⟩
    have h0 : (0 : Int) < (xs.length : Int) := by
      cases xs with
      | nil => exact absurd rfl hx
      | cons x xs => rw [List.length_cons]; omega
    refine ⟨_, rfl, _, rfl, _, rfl, l, _, rfl, .inl (SqL.of hL), p, a, cs, b, g, _, rfl, N, hb, h0, by omega, fun r b' g' H' r0 r1 hb' N' kp => ?_⟩
    obtain ⟨j, rfl⟩ := Int.eq_ofNat_of_zero_le r0
    have hj : j < xs.length := Int.ofNat_lt.mp r1
    exact ⟨l, xs, _, _, rfl, rfl, SqL.of (kp l _ nl hL), atI_nat (List.getElem?_eq_getElem hj), k _ b' g' H' (List.getElem_mem hj) hb' N' kp⟩
theorem scSome : FnScope ["_law_pen_here", "_law_some_here"] ["_law_pen_here"] (defScope sSome) := ⟨rfl, rfl, rfl, by decide +kernel, rfl, by decide +kernel, by decide +kernel⟩
/-- what is drawn -/
def dats : List PyData := [.none, .bool true, .bool false, .int 0, .int (-7), .int (10 ^ 39), .str "", .str "f", .str "a b", .tuple [], .tuple [.str "f", .int 1], .list [], .list [.str "f"],
  .dict [], .dict [(.str "f", .list [.str "g"])], .tuple [.int 0, .tuple [.int 1, .int 2]]]
def spSome : Sp := fun vs H Q _ => ∃ (p a : Addr) (cs : List Int) (b g : Int), vs = [.ref p] ∧ Pen H p a cs b g ∧ b ≤ 1000 ∧
  ∀ (v : V) (d : PyData) (b' g' : Int) (H' : Hp), d ∈ dats → Dat H' v d → b' ≤ b + 1 → Pen H' p a cs b' g' → (∀ c o, c ≠ p → H c = some o → H' c = some o) → Q v H'
theorem ok_some {fP : Addr} {fdP : FuncData} (F : FnP K "_law_some" sSome f fd) (T : Blt mg) (FP : FnP K "_law_pick" sPick fP fdP) (gP : mg "_law_pick" = some (.ref fP))
    (FD : FnP K "_law_draw" sDraw fD fdD) (gD : mg "_law_draw" = some (.ref fD)) :
    FnOk P w K mg base CX0 3 f fd ["_law_pen_here"] spSome := by
  have GP : FnOk P w K mg base CX0 2 fP fdP ["_law_pen_here", "_law_some_here"] spPick := ok_pick FP T FD gD
  have bP : Binds K fdP ["_law_pen_here", "_law_some_here"] [] := FP.bindsN fun _ _ _ _ _ _ us hl => match us, hl with | [_, _], _ => rfl
  refine F.ok scSome (fun vs H Q E h => ?_) (fun cdv A outer s H vs Q E hr h => ?_)
  · obtain ⟨p, a, cs, b, g, rfl, _⟩ := h
    rfl
  · obtain ⟨p, a, cs, b, g, rfl, N, hb, k⟩ := h
    refine ⟨_, PSs.nox (pss_cons (ps_set (i := 1) scSome.nd rfl (.inl rfl) (pe_lst (pa_cons pe_non (pa_cons pe_bl (pa_cons pe_bl (pa_cons pe_int (pa_cons (pe_un un_neg pe_int) (pa_cons (pe_op op_pow pe_int pe_int)
      (pa_cons pe_str (pa_cons pe_str (pa_cons pe_str (pa_cons (pe_tup pa_nil) (pa_cons (pe_tup (pa_cons pe_str (pa_cons pe_int pa_nil))) (pa_cons (pe_lst1 pa_nil) (pa_cons (pe_lst1 (pa_cons pe_str pa_nil))
      (pa_cons pe_dnewK (pa_cons (pe_disp (pps_cons pe_str (pe_lst1 (pa_cons pe_str pa_nil)) pps_nil) rfl rfl (by simp) (by decide)) (pa_cons (pe_tup (pa_cons pe_int (pa_cons (pe_tup (pa_cons pe_int (pa_cons pe_int pa_nil))) pa_nil))) pa_nil))))))))))))))))))
      (pss_one (ps_ret (pe_call GP hr (by rfl) gP FP.kp bP .nil pass0 (pa_cons (pv 0) (pa_cons (pv 1) pa_nil)))))), ?_⟩
    refine ⟨_, rfl, _, _, rfl, rfl, ⟨by decide, by decide, by decide⟩, Nat.zero_le _, fun t1 e1 => ⟨(by show 2 ≤ sizeLine; decide), fun t2 e2 => ⟨Nat.zero_le _, fun l1 e3 m3 => ⟨(by show 1 ≤ sizeLine; decide), fun l2 e4 m4 => fun d1 e5 => fun d2 e6 => ?_⟩⟩⟩⟩
    refine ⟨(by show 1 ≤ sizeLine; decide), fun l3 e7 m7 => ⟨by rw [upd_ne (ne_of_none upd_same e7), upd_same], [(Sum.inr "f", .ref l3)], rfl, (by show 1 ≤ 15; decide), ?_⟩⟩
    refine ⟨(by show 2 ≤ sizeLine; decide), fun t3 e8 => ⟨(by show 2 ≤ sizeLine; decide), fun t4 e9 => ⟨(by show 16 ≤ sizeLine; decide), fun l e10 => ?_⟩⟩⟩
    have s1 := same_new (o := .tup []) e1
    have s2 := same_new (o := .tup [.str "f", .int 1]) e2
    have s3 := same_new (o := .lst []) e3
    have s4 := same_new (o := .lst [.str "f"]) e4
    have s5 := same_new (o := .dK []) e5
    have s6 := same_new (o := .dK []) e6
    have s7 := same_new (o := .lst [.str "g"]) e7
    have s8 : Same _ _ := fun c o e => show upd _ d2 (.dK (mergeK [] [(Sum.inr "f", .ref l3)])) c = some o from by
      rw [upd_ne (ne_of_none e e6)]
      exact s7 _ _ (s6 _ _ e)
    have s9 := same_new (o := .tup [.int 1, .int 2]) e8
    have s10 := same_new (o := .tup [.int 0, .ref t3]) e9
    have s11 := same_new (o := .lst [.non, .bl true, .bl false, .int 0, .int (-7), .int (10 ^ 39), .str "", .str "f", .str "a b", .ref t1, .ref t2, .ref l1, .ref l2, .ref d1, .ref d2, .ref t4]) e10
    have u5 := s5.trans (s8.trans (s9.trans (s10.trans s11)))
    have u4 := s4.trans u5
    have u3 := s3.trans u4
    have u2 := s2.trans u3
    have u1 := s1.trans u2
    have u9 := s9.trans (s10.trans s11)
    have N1 := N.same u1
    have c1 := u2 _ _ (upd_same (H := H) (a := t1) (o := .tup []))
    have c2 := u3 _ _ upd_same
    have c3 := u4 _ _ upd_same
    have c4 := u5 _ _ upd_same
    have c5 := (s8.trans u9) _ _ upd_same
    have c6 := u9 d2 _ upd_same
    have c7 := u9 l3 (.lst [.str "g"]) (by rw [upd_ne (ne_of_none upd_same e7).symm, upd_same])
    have c8 := (s10.trans s11) _ _ upd_same
    have c9 := s11 _ _ upd_same
    have v10 := s1.trans (s2.trans (s3.trans (s4.trans (s5.trans (s8.trans (s9.trans s10))))))
    refine ⟨_, rfl, _, rfl, p, a, l, cs, b, g, _, rfl, N1, hb, (ne_of_none (N.same v10).pn e10).symm, upd_same, by simp, (by show 16 < 1000; decide), fun x b' g' H' hx hb' N' kp => ?_⟩
    have D := Dats.cons (H := mn _ p) .non (.cons (.bl true) (.cons (.bl false) (.cons (.int 0) (.cons (.int (-7)) (.cons (.int (10 ^ 39)) (.cons (.str "") (.cons (.str "f") (.cons (.str "a b")
      (.cons (.tup (mn_at N1.pn c1 (by intro z; cases z)) .nil) (.cons (.tup (mn_at N1.pn c2 (by intro z; cases z)) (.cons (.str "f") (.cons (.int 1) .nil)))
      (.cons (.lst (mn_at N1.pn c3 (by intro z; cases z)) m3 .nil) (.cons (.lst (mn_at N1.pn c4 (by intro z; cases z)) m4 (.cons (.str "f") .nil))
      (.cons (.dic (kds := []) (mn_at N1.pn c5 (by intro z; cases z)) rfl .nil)
      (.cons (.dic (kds := [(.str "f", .list [.str "g"])]) (mn_at N1.pn c6 (by intro z; cases z)) rfl (.cons (.lst (mn_at N1.pn c7 (by intro z; cases z)) m7 (.cons (.str "g") .nil)) .nil))
      (.cons (.tup (mn_at N1.pn c9 (by intro z; cases z)) (.cons (.int 0) (.cons (.tup (mn_at N1.pn c8 (by intro z; cases z)) (.cons (.int 1) (.cons (.int 2) .nil))) .nil))) .nil)))))))))))))))
    obtain ⟨d, hd, hD⟩ := D.mem hx
    exact k x d b' g' H' hd (hD.same fun c o e => by
      by_cases hc : c = p
      · rw [hc, mn_same] at e
        cases e
      · rw [mn_ne hc] at e
        exact kp c o hc e) hb' N' fun c o hc e => kp c o hc (u1 c o e)
end
end K1

/-! ErrF -/
set_option Elab.async false
set_option linter.all false
set_option maxRecDepth 100000
set_option maxHeartbeats 4000000
/-! What the written part must say of own exception classes, as one Bool; a Hook by any Bool. -/
namespace EF
open PySem PySem.Spec PyProof.Rows L2 EV He
abbrev veT : List Value := [.type "ValueError", .type "Exception", .type "BaseException", .type "object"]
def clsShape (K : PySem.W.Frag) (C : Addr) (bm : List Value) : Bool := match K.lookup C with
  | some ⟨.type "type", _, .cls cd, sl⟩ => decide (cd.mro = .ref C :: bm) && (cd.hasDict && (!cd.hasDel && (match sl.toList with
    | [_, _, _, _, some (.builtin n), _] => n == "ValueError.__new__"
    | _ => false)))
  | _ => false
theorem clsShape_ok {K : PySem.W.Frag} {C : Addr} {bm : List Value} (h : clsShape K C bm = true) :
    ∃ nm q N bs sn sub ab col dd k0 k1 k2 k3 k5, K.lookup C = some (excClassObj nm q C N bs bm true sn sub ab col dd k0 k1 k2 k3 k5 "ValueError.__new__") := by
  unfold clsShape at h
  split at h
  · rename_i dd cd sl ho
    obtain ⟨h1, h⟩ := ba h
    obtain ⟨h2, h⟩ := ba h
    obtain ⟨h3, h4⟩ := ba h
    split at h4
    · rename_i k0 k1 k2 k3 n k5 hs
      obtain ⟨nm, bs, mro, ns, qn, hd, sn, sub, ab, col, del⟩ := cd
      have e1 : mro = .ref C :: bm := of_decide_eq_true h1
      have e2 : hd = true := h2
      have e3 : del = false := by simpa using h3
      have e4 : n = "ValueError.__new__" := beq_iff_eq.mp h4
      have e5 : sl = #[k0, k1, k2, k3, some (.builtin n), k5] := by
        obtain ⟨l⟩ := sl
        simp only at hs
        rw [hs]
      subst e1 e2 e3 e4 e5
      exact ⟨nm, qn, ns, bs, sn, sub, ab, col, dd, k0, k1, k2, k3, k5, ho⟩
    · cases h4
  · cases h
/-- the classes above x, own ones, then ValueError's -/
abbrev above (K : PySem.W.Frag) (bs : List Str) : List Value := bs.map (fun b => Value.ref (ga K b)) ++ veT
def errB (K : PySem.W.Frag) (x : Str) (bs : List Str) : Bool :=
  clsShape K (ga K x) (above K bs) && (eqO (PySem.W.findIn K (.ref (ga K x)) "__setattr__") (some (some (.builtin "object.__setattr__"))) &&
  (eqO (PySem.W.findIn K (.ref (ga K x)) "__getattribute__") (some (some (.builtin "BaseException.__getattribute__"))) &&
  (eqO (PySem.W.findIn K (.ref (ga K x)) "__getattr__") (some none) && (PySem.W.keepIn K (.ref (ga K x)) &&
  (eqO (PySem.W.findIn K (.ref (ga K x)) "__class__") (some (some (.builtin "object.__class__"))) && eqO (PySem.W.nsIn K mainGlobals x) (some (some (.ref (ga K x)))))))))
structure ErrK (K : PySem.W.Frag) (x : Str) (bs : List Str) : Prop where
  ox : OexC K (ga K x)
  xf : XfC K (ga K x)
  ex : L2.ExcC K (ga K x)
  hc : (PySem.W.clsIn K (ga K x)).isSome = true
  sub : ∀ v, PySem.W.subIn K (.ref (ga K x)) v = some ((Value.ref (ga K x) :: above K bs).contains v)
  nm : PySem.W.nsIn K mainGlobals x = some (some (.ref (ga K x)))
/-- what isinstance asks of every object -/
def objB (K : PySem.W.Frag) : Bool := eqO (PySem.W.specialIn K (.builtin "object.__class__") "__get__") (some (some (.builtin "getset_descriptor.__get__"))) && decide (PySem.W.takesIn K (.builtin "object.__class__") = some true)
theorem refs_above {K : PySem.W.Frag} (bs : List Str) : PySem.HandSPX.refsVE (above K bs) = true := by
  induction bs with
  | nil => exact (by decide : PySem.HandSPX.refsVE veT = true)
  | cons b bs ih => exact ih
theorem errB_ok {K : PySem.W.Frag} {x : Str} {bs : List Str} (h : errB K x bs = true) (ho : objB K = true) : ErrK K x bs := by
  obtain ⟨h1, h⟩ := ba h
  obtain ⟨h2, h⟩ := ba h
  obtain ⟨h3, h⟩ := ba h
  obtain ⟨h4, h⟩ := ba h
  obtain ⟨h5, h⟩ := ba h
  obtain ⟨h6, h7⟩ := ba h
  obtain ⟨o1, o2⟩ := ba ho
  obtain ⟨nm, q, N, bbs, sn, sub, ab, col, dd, k0, k1, k2, k3, k5, hC⟩ := clsShape_ok h1
  have hcl : PySem.W.clsIn K (ga K x) = some { name := nm, bases := bbs, mro := .ref (ga K x) :: above K bs, ns := N, qualname := q, hasDict := true, slotNames := sn, subclasses := sub, abstract := ab, collection := col, hasDel := false } := by
    unfold PySem.W.clsIn
    rw [hC] <;> rfl
  have hsub : ∀ v, PySem.W.subIn K (.ref (ga K x)) v = some ((Value.ref (ga K x) :: above K bs).contains v) := fun v => by
    show PySem.W.mroIn K (ga K x) v = _
    unfold PySem.W.mroIn
    rw [hcl]
    rfl
  have hbase : PySem.W.subIn K (.ref (ga K x)) (.type "BaseException") = some true := by
    rw [hsub, List.contains_cons, PySem.HandSPX.refsVE_contains _ _ (refs_above bs)]
    rfl
  have hobj : PySem.W.mroIn K (ga K x) (.type "object") = some true := by
    have e := hsub (.type "object")
    rw [List.contains_cons, PySem.HandSPX.refsVE_contains _ _ (refs_above bs)] at e
    exact e.trans rfl
  have hty : PySem.W.typeIn K (.ref (ga K x)) = some (.type "type") := by
    show (K.lookup (ga K x)).map (·.cls) = _
    rw [hC] <;> rfl
  have hd : PySem.W.hasDictIn K (ga K x) = true := by
    unfold PySem.W.hasDictIn
    rw [hcl] <;> rfl
  exact ⟨⟨⟨nm, q, N, bbs, above K bs, sn, sub, ab, col, dd, k0, k1, k2, k3, k5, hC, refs_above bs⟩, eqO_ok h2, hbase, hty, h5⟩,
    ⟨eqO_ok h3, eqO_ok h4, hbase, hd⟩, ⟨eqO_ok h3, eqO_ok h4, hbase, hd, eqO_ok h6, eqO_ok o1, of_decide_eq_true o2, hobj⟩, by rw [hcl]; rfl, hsub, eqO_ok h7⟩
theorem veT_ref (c : Addr) : veT.contains (.ref c) = false := by
  simp [List.contains_cons]
theorem contains_refs {K : PySem.W.Frag} (bs : List Str) (c : Addr) : (above K bs).contains (.ref c) = decide (c ∈ bs.map (ga K)) := by
  induction bs with
  | nil => exact (veT_ref c).trans (by simp)
  | cons b bs ih =>
    show (Value.ref (ga K b) :: above K bs).contains (.ref c) = _
    rw [List.contains_cons, ih]
    by_cases e : c = ga K b
    · subst e
      simp
    · have e2 : (Value.ref c == Value.ref (ga K b)) = false := by
        rw [beq_eq_false_iff_ne]
        intro z
        exact e (Value.ref.inj z)
      rw [e2]
      simp [e]
/-- isinstance of an error of the class x against the class y -/
theorem kit {K : PySem.W.Frag} {x y : Str} {bs cs : List Str} (X : ErrK K x bs) (Y : ErrK K y cs) :
    PySem.W.kitOne K (.ref (ga K x)) (.ref (ga K y)) = some (decide (ga K y = ga K x ∨ ga K y ∈ bs.map (ga K))) := by
  unfold PySem.W.kitOne
  by_cases e : ga K y = ga K x
  · rw [e, if_pos (by simp)]
    simp
  · have ne : (Value.ref (ga K x) == Value.ref (ga K y)) = false := by
      rw [beq_eq_false_iff_ne]
      intro z
      exact e (Value.ref.inj z).symm
    rw [ne, if_neg Bool.false_ne_true]
    unfold PySem.W.kitCls
    have t : ((PySem.W.clsIn K (ga K y)).isSome && PySem.W.typeIn K (.ref (ga K y)) == some (.type "type")) = true := by
      rw [Y.hc, Y.ox.tyC]
      rfl
    show (if ((PySem.W.clsIn K (ga K y)).isSome && PySem.W.typeIn K (.ref (ga K y)) == some (.type "type")) = true then _ else _) = _
    rw [if_pos t, X.sub, List.contains_cons, contains_refs]
    have e3 : (Value.ref (ga K y) == Value.ref (ga K x)) = false := by
      rw [beq_eq_false_iff_ne]
      intro z
      exact e (Value.ref.inj z)
    rw [e3, Bool.false_or]
    simp [e]
/-- .. against a built-in class -/
theorem kitT {K : PySem.W.Frag} {x : Str} {bs : List Str} (X : ErrK K x bs) {T : String} (hm : PySem.W.kitMeta T = true) :
    PySem.W.kitOne K (.ref (ga K x)) (.type T) = some (veT.contains (.type T)) := by
  unfold PySem.W.kitOne
  rw [if_neg (fun z => nomatch (beq_iff_eq.mp z : Value.ref _ = Value.type _))]
  show (if PySem.W.kitMeta T = true then PySem.W.subIn K (.ref (ga K x)) (.type T) else none) = _
  rw [if_pos hm, X.sub, List.contains_cons, PySem.HandSPX.refsVE_contains _ _ (refs_above bs)]
  rfl
/-! ### a Hook by a Bool -/
def obsX (ck : PySem.W.Frag → Bool) (fn : List DefD) (K : PySem.W.Frag) : AlD := (ck K && fn.all fun d => d.ok K, fn.map fun d => fnW K d.at_)
def SaysX (ck : PySem.W.Frag → Bool) (fn : List DefD) (K : PySem.W.Frag) : Prop := obsX ck fn K = valD fn
def obsXG (n : Nat) (ck : PySem.W.Frag → Bool) (fn : List DefD) (g : Addr → Option Obj) : AlD := obsX ck fn (frG g (asD g n))
def hookX (n : Nat) (ck : PySem.W.Frag → Bool) (fn : List DefD) : PySem.W.Hook where
  α := AlD
  obs := fun s => obsXG n ck fn s.heap.get?
  val := fun _ => valD fn
  says := fun _ h => ∃ K : PySem.W.Frag, K.In h ∧ SaysX ck fn K
  of := fun _ _ e => ⟨_, frG_in, e⟩
  keeps := fun _ _ _ ⟨K, hK, c⟩ k => ⟨K, PySem.W.Frag.In.keeps hK k, c⟩
theorem obsXG_eq {n : Nat} {ck : PySem.W.Frag → Bool} {fn : List DefD} {g : Addr → Option Obj} {s : Shared} (h : ∀ a, g a = s.heap.get? a) : obsXG n ck fn g = (hookX n ck fn).obs s := by
  rw [show g = s.heap.get? from funext h]
  rfl
section
variable {ck : PySem.W.Frag → Bool} {fn : List DefD} {K : PySem.W.Frag}
theorem SaysX.chk (c : SaysX ck fn K) : ck K = true := (ba (congrArg (fun z : AlD => z.1) c : (ck K && fn.all fun d => d.ok K) = true)).1
theorem SaysX.def_ (c : SaysX ck fn K) (i : Nat) {d : DefD} (h : fn[i]? = some d := by rfl) : ∃ fd, FunD K d.name d.qual d.params d.body d.scope (d.dvs K) (d.kws K) (fAd K d.at_) fd := by
  have c2 := (ba (congrArg (fun z : AlD => z.1) c : (ck K && fn.all fun d => d.ok K) = true)).2
  have e : fn.map (fun d => fnW K d.at_) = fn.map DefD.val := congrArg (fun z : AlD => z.2) c
  have e2 : (fn.map fun d => fnW K d.at_)[i]? = (fn.map DefD.val)[i]? := by rw [e]
  rw [List.getElem?_map, List.getElem?_map, h] at e2
  exact DefD.funD (Option.some.inj e2) (List.all_eq_true.mp c2 d (List.mem_of_getElem? h))
end
end EF

/-! ErrI -/
set_option Elab.async false
set_option linter.all false
set_option maxRecDepth 100000
set_option maxHeartbeats 4000000
/-! Own exception classes whose __init__ keeps its one or two parameters as fields: made by position and by name. -/
namespace EI
open PySem PySem.Spec PyProof.Rows L2 EV He EF
/-- an error laid anew at a, its dict at d -/
def mkE (H : Hp) (a d C : Addr) (fs : List (Str × V)) : Hp := upd (upd H d (exd d fs)) a (exo a C (some d))
theorem mkE_at {H : Hp} {a d C : Addr} {fs : List (Str × V)} (h : d ≠ a) : ErrAt (mkE H a d C fs) a C d fs :=
  ⟨upd_same, by
    unfold mkE
    rw [upd_ne h, upd_same]⟩
theorem mkE_same {H : Hp} {a d C : Addr} {fs : List (Str × V)} (na : H a = none) (nd : H d = none) : Same H (mkE H a d C fs) := fun b o e => by
  unfold mkE
  rw [upd_ne (ne_of_none e na), upd_ne (ne_of_none e nd)]
  exact e
theorem _root_.EV.ErrAt.same {H H' : Hp} {a C d : Addr} {fs : List (Str × V)} (r : ErrAt H a C d fs) (k : Same H H') : ErrAt H' a C d fs := ⟨k _ _ r.ob, k _ _ r.dc⟩
theorem _root_.EV.IsErr.same {H H' : Hp} {a C : Addr} (r : IsErr H a C) (k : Same H H') : IsErr H' a C := by
  rcases r with ⟨d, fs, r⟩ | r
  · exact .inl ⟨d, fs, r.same k⟩
  · exact .inr (k _ _ r)
theorem mk1_eq {H : Hp} {a d C : Addr} {fs : List (Str × V)} {o : HO} (h : d ≠ a) : upd (upd (upd H a o) d (exd d fs)) a (exo a C (some d)) = mkE H a d C fs := by
  funext b
  unfold mkE
  by_cases e : b = a
  · rw [e, upd_same, upd_same]
  · rw [upd_ne e, upd_ne e]
    by_cases e2 : b = d
    · rw [e2, upd_same, upd_same]
    · rw [upd_ne e2, upd_ne e2, upd_ne e]
theorem mk2_eq {H : Hp} {a d C : Addr} {fs gs : List (Str × V)} {o : HO} (h : d ≠ a) : upd (upd (upd (upd H a o) d (exd d fs)) a (exo a C (some d))) d (exd d gs) = mkE H a d C gs := by
  funext b
  unfold mkE
  by_cases e2 : b = d
  · rw [e2, upd_same, upd_ne h, upd_same]
  · rw [upd_ne e2]
    by_cases e : b = a
    · rw [e, upd_same, upd_same]
    · rw [upd_ne e, upd_ne e, upd_ne e2, upd_ne e2, upd_ne e]
def spE1 (C : Addr) (f : Str) : Sp := fun vs H Q _ => ∃ (a : Addr) (v : V), vs = [.ref a, v] ∧ H a = some (exo a C none) ∧
  ∀ d, H d = none → d ≠ a → Q .non (upd (upd H d (exd d [(f, v)])) a (exo a C (some d)))
def spE2 (C : Addr) (f g : Str) : Sp := fun vs H Q _ => ∃ (a : Addr) (v w : V), vs = [.ref a, v, w] ∧ H a = some (exo a C none) ∧
  ∀ d, H d = none → d ≠ a → Q .non (upd (upd (upd H d (exd d [(f, v)])) a (exo a C (some d))) d (exd d [(g, w), (f, v)]))
/-- the body `self.f = f` -/
structure Body1 (st : Stmt) (f : Str) : Prop where
  bd : ∃ q1 q2 q3 q4, defBody st = [.Assign [.Attribute (.Name "self" q1) f q2] (.Name f q3) q4]
  sc : defScope st = { kind := .function, names := [("self", .local), (f, .local)], isGenerator := false, isCoroutine := false, more := [] }
  kb : ∀ (qual : Str) (kV doc pm : Value) (an : Option Addr) (cdv ct a v : Value), bindArgs (PySem.W.fnOf "__init__" qual (defArgs st) (defBody st) (defScope st) .none kV doc pm an cdv ct) ⟨[a], [(f, v)]⟩ = pure [(("self" : Str), a), (f, v)]
  pb : ∀ (qual : Str) (kV doc pm : Value) (an : Option Addr) (cdv ct a v : Value), bindArgs (PySem.W.fnOf "__init__" qual (defArgs st) (defBody st) (defScope st) .none kV doc pm an cdv ct) ⟨[a, v], []⟩ = pure [(("self" : Str), a), (f, v)]
  ne : f ≠ "self"
  n1 : (f == ("__debug__" : Str)) = false
  n2 : (f == ("__classdict__" : Str)) = false
section
variable {P : Program} {w : World} {K : PySem.W.Frag} {mg : Str → Option Value} {base : Heap} {fI : Addr} {fd : FuncData} {C : Addr} {f g qual : Str} {st : Stmt}
theorem sc1 (B : Body1 st f) : FnScope ["self", f] ["self", f] (defScope st) := by
  rw [B.sc]
  refine ⟨rfl, rfl, rfl, ?_, rfl, ?_, by simp⟩
  · simp [B.ne.symm]
  · intro x hx
    rcases List.mem_cons.mp hx with rfl | hx
    · exact .inl rfl
    · rcases List.mem_cons.mp hx with rfl | hx
      · refine .inl ?_
        show List.lookup x [(("self" : Str), NameKind.local), (x, NameKind.local)] = _
        have e : (x == ("self" : Str)) = false := by simpa using B.ne
        simp [List.lookup, e]
      · cases hx
theorem vis1 (B : Body1 st f) : Vis (defScope st) f := by
  have := (sc1 B).par f (by simp)
  rcases this with h | h
  · exact .inl h
  · exact .inr (.inl h)
theorem vis0 (B : Body1 st f) : Vis (defScope st) "self" := by
  rw [B.sc]
  exact .inl rfl
theorem ok_init1 (F : FunD K "__init__" qual (defArgs st) (defBody st) (defScope st) [] [] fI fd) (B : Body1 st f) (T : OexC K C) (no : PySem.W.findIn K (.ref C) f = some none) :
    FnOk P w K mg base CX0 1 fI fd ["self", f] (spE1 C f) := by
  refine F.ok (sc1 B) (fun vs H Q E h => ?_) (fun cdv A outer s H vs Q E hr h => ?_)
  · obtain ⟨a, v, rfl, _⟩ := h
    rfl
  · obtain ⟨a, v, rfl, ha, k⟩ := h
    obtain ⟨q1, q2, q3, q4, eb⟩ := B.bd
    rw [eb]
    refine ⟨_, PSs.nox (pss_one (ps_ost (pe_var (i := 0) rfl (vis0 B)) (pe_var (i := 1) rfl (vis1 B) B.n1 B.n2))), ?_⟩
    exact ⟨v, rfl, _, rfl, a, C, rfl, T, no, .inl ⟨ha, fun d hd ne => k d hd ne⟩⟩
/-- how a call binds -/
theorem kw1 (F : FunD K "__init__" qual (defArgs st) (defBody st) (defScope st) [] [] fI fd) (B : Body1 st f) (s : Shared) (a v : Value) : BindsTo s fd ⟨[a], [(f, v)]⟩ [(("self" : Str), a), (f, v)] := by
  obtain ⟨oc, od, dV, kV, doc, pm, an, cdv, ct, osl, rfl, lk, hcd, hD, hK⟩ := F.ex
  rcases hD with ⟨_, rfl⟩ | ⟨e, _⟩
  · exact .of_eq (B.kb _ _ _ _ _ _ _ _ _)
  · exact absurd rfl e
theorem pos1 (F : FunD K "__init__" qual (defArgs st) (defBody st) (defScope st) [] [] fI fd) (B : Body1 st f) : Binds K fd ["self", f] [] :=
  F.bindsN fun _ _ _ _ _ _ us hl => match us, hl with | [_, _], _ => B.pb _ _ _ _ _ _ _ _ _
end
/-- what is known of such a class x with the field f -/
structure Cl1 (P : Program) (w : World) (K : PySem.W.Frag) (mg : Str → Option Value) (base : Heap) (x f : Str) (bs : List Str) : Prop where
  e : ErrK K x bs
  mkr : ∃ (fI : Addr) (fd : FuncData), PySem.W.findIn K (.ref (ga K x)) "__init__" = some (some (.ref fI)) ∧ PySem.W.typeIn K (.ref fI) = some (.type "function") ∧
    FnOk P w K mg base CX0 1 fI fd ["self", f] (spE1 (ga K x) f) ∧ Binds K fd ["self", f] [] ∧ ∀ (s : Shared) (a v : Value), BindsTo s fd ⟨[a], [(f, v)]⟩ [(("self" : Str), a), (f, v)]
  no : PySem.W.findIn K (.ref (ga K x)) f = some none
  gl : mg x = some (.ref (ga K x))
/-- x(e) | x(f = e): a new error -/
def tE1 (C : Addr) (f : Str) (te : TE) : TE := fun σ H Q => te σ H fun v H1 => ∀ a d, H1 a = none → H1 d = none → d ≠ a → Q (.ref a) (mkE H1 a d C [(f, v)])
def wE1 (C : Addr) (f : Str) (Q : VK) : List V → Hp → Prop := fun vs H1 => match vs with
  | [v] => ∀ a d, H1 a = none → H1 d = none → d ≠ a → Q (.ref a) (mkE H1 a d C [(f, v)])
  | _ => False
theorem wE1_of {C : Addr} {f : Str} {Q : VK} : ∀ {vs : List V} {H1 : Hp}, wE1 C f Q vs H1 → ∃ v, vs = [v] ∧ ∀ a d, H1 a = none → H1 d = none → d ≠ a → Q (.ref a) (mkE H1 a d C [(f, v)])
  | [v], _, h => ⟨v, rfl, h⟩
  | [], _, h => h.elim
  | _ :: _ :: _, _, h => h.elim
section
variable {X : Cx} {x f : Str} {bs : List Str} {e : Expr} {te : TE} {p pos kpos : Pos} {k : Nat}
theorem tE1_to {C : Addr} {f : Str} {H1 : Hp} {v : V} {Q : VK} (q : ∀ a d, H1 a = none → H1 d = none → d ≠ a → Q (.ref a) (mkE H1 a d C [(f, v)])) (a : Addr) (ha : H1 a = none) :
    spE1 C f [.ref a, v] (upd H1 a (exo a C none)) (fun u H2 => u = .non ∧ Q (.ref a) H2) E0 := by
  refine ⟨a, v, rfl, upd_same, fun d hd ne => ⟨rfl, ?_⟩⟩
  rw [upd_ne ne] at hd
  rw [mk1_eq ne]
  exact q a d ha hd ne
theorem pe_e1 (T : Cl1 X.prog X.w X.K X.mg X.base x f bs) (hr : Room 2 X.A) (hc : Passes CX0 X E0) (hg : Gl X x) (he : PE X e te)
    (hdb : (x == ("__debug__" : Str)) = false := by decide) (hs : starEach [e] X.env = (false, eval e X.env) :: starEach [] X.env := by rfl)
    (hpl : (backTo pos (starEach [] X.env)).any (·.1) = false := by rfl) : PE X (.Call (.Name x p) [e] [] pos) (tE1 (ga X.K x) f te) := by
  obtain ⟨fI, fd, iC, tI, F1, b1, _⟩ := T.mkr
  refine ⟨fun pins s σ H Q I h => ?_⟩
  refine wpAny_Call_Name_kw (ld_glob I hg T.gl ?_ hdb)
  refine PySem.W.callWith_K (h₀ := X.base) I.ok.mod.kin T.e.ox.kC (thn ((pa_cons he pa_nil (hs := hs)).run pos pins s σ H (wE1 (ga X.K x) f Q) I h) fun us s1 ⟨vs, H1, I1, r1, q1⟩ => ⟨I1.kIn, ?_⟩) hs hpl
  obtain ⟨v, rfl, q⟩ := wE1_of q1
  show wpAny _ _ (call (.ref (ga X.K x)) us) _ _ _
  refine run_err T.e.ox iC tI F1 hr (fun s' a X' => ?_) hc I1 r1 ?_ (fun a ha => tE1_to q a ha)
  · have hl : us.length = 1 := r1.length.symm
    have z := b1 s' (.ref a :: us) X' (by rw [List.append_nil, List.length_cons, hl]; rfl)
    rw [List.append_nil] at z
    exact z
  · rw [← r1.length, sizeLine_eq]
    exact (by decide : 1 ≤ 16777216)
theorem pe_e1K (T : Cl1 X.prog X.w X.K X.mg X.base x f bs) (hr : Room 2 X.A) (hc : Passes CX0 X E0) (hg : Gl X x) (he : PE X e te)
    (hall : (backToKw pos (keywordEach [⟨some f, e, kpos⟩] X.env)).all (·.1.isSome) = true := by rfl)
    (hks : (backToKw pos (keywordEach [⟨some f, e, kpos⟩] X.env)).filterMap (·.1) = [f] := by rfl)
    (hdb : (x == ("__debug__" : Str)) = false := by decide)
    (hpl : ((backTo pos (starEach [] X.env)).any (·.1) || (backToKw pos (keywordEach [⟨some f, e, kpos⟩] X.env)).any (·.1.isNone)) = false := by rfl) :
    PE X (.Call (.Name x p) [] [⟨some f, e, kpos⟩] pos) (tE1 (ga X.K x) f te) := by
  obtain ⟨fI, fd, iC, tI, F1, b1, bk⟩ := T.mkr
  refine ⟨fun pins s σ H Q I h => ?_⟩
  refine wpAny_Call_Name_kw (ld_glob I hg T.gl ?_ hdb)
  refine PySem.W.callWith_KW0 (h₀ := X.base) I.ok.mod.kin T.e.ox.kC hall ?_ hpl
  refine thn ((pk_cons he pk_nil).run pos pins s σ H (wE1 (ga X.K x) f Q) I h) fun ws s2 ⟨zs, H2, I2, rz, q2⟩ => ⟨I2.kIn, ?_⟩
  rw [hks]
  obtain ⟨v, rfl, q⟩ := wE1_of q2
  refine run_err T.e.ox iC tI F1 hr (fun s' a X' => ?_) hc I2 rz (Nat.zero_le _) (fun a ha => tE1_to q a ha)
  cases rz with
  | cons r1 r2 =>
    cases r2
    exact bk s' _ _
end
/-! ### two fields -/
/-- the body `self.f = f; self.g = g` -/
structure Body2 (st : Stmt) (f g : Str) : Prop where
  bd : ∃ q1 q2 q3 q4 r1 r2 r3 r4, defBody st = [.Assign [.Attribute (.Name "self" q1) f q2] (.Name f q3) q4, .Assign [.Attribute (.Name "self" r1) g r2] (.Name g r3) r4]
  sc : FnScope ["self", f, g] ["self", f, g] (defScope st)
  v0 : Vis (defScope st) "self"
  v1 : Vis (defScope st) f
  v2 : Vis (defScope st) g
  kb : ∀ (qual : Str) (kV doc pm : Value) (an : Option Addr) (cdv ct a v w : Value), bindArgs (PySem.W.fnOf "__init__" qual (defArgs st) (defBody st) (defScope st) .none kV doc pm an cdv ct) ⟨[a], [(g, w), (f, v)]⟩ = pure [(("self" : Str), a), (f, v), (g, w)]
  pb : ∀ (qual : Str) (kV doc pm : Value) (an : Option Addr) (cdv ct a v w : Value), bindArgs (PySem.W.fnOf "__init__" qual (defArgs st) (defBody st) (defScope st) .none kV doc pm an cdv ct) ⟨[a, v, w], []⟩ = pure [(("self" : Str), a), (f, v), (g, w)]
  n1 : (f == ("__debug__" : Str)) = false
  n2 : (f == ("__classdict__" : Str)) = false
  n3 : (g == ("__debug__" : Str)) = false
  n4 : (g == ("__classdict__" : Str)) = false
section
variable {P : Program} {w : World} {K : PySem.W.Frag} {mg : Str → Option Value} {base : Heap} {fI : Addr} {fd : FuncData} {C : Addr} {f g qual : Str} {st : Stmt}
theorem ok_init2 (F : FunD K "__init__" qual (defArgs st) (defBody st) (defScope st) [] [] fI fd) (B : Body2 st f g) (T : OexC K C) (no : PySem.W.findIn K (.ref C) f = some none) (no2 : PySem.W.findIn K (.ref C) g = some none) :
    FnOk P w K mg base CX0 1 fI fd ["self", f, g] (spE2 C f g) := by
  refine F.ok B.sc (fun vs H Q E h => ?_) (fun cdv A outer s H vs Q E hr h => ?_)
  · obtain ⟨a, v, u, rfl, _⟩ := h
    rfl
  · obtain ⟨a, v, u, rfl, ha, k⟩ := h
    obtain ⟨q1, q2, q3, q4, r1, r2, r3, r4, eb⟩ := B.bd
    rw [eb]
    refine ⟨_, PSs.nox (pss_cons (ps_ost (pe_var (i := 0) rfl B.v0) (pe_var (i := 1) rfl B.v1 B.n1 B.n2)) (pss_one (ps_ost (pe_var (i := 0) rfl B.v0) (pe_var (i := 2) rfl B.v2 B.n3 B.n4)))), ?_⟩
    refine ⟨v, rfl, _, rfl, a, C, rfl, T, no, .inl ⟨ha, fun d hd ne => ?_⟩⟩
    exact ⟨u, rfl, _, rfl, a, C, rfl, T, no2, .inr ⟨d, _, upd_same, by rw [upd_ne ne, upd_same], (by show 1 ≤ 900; decide), k d hd ne⟩⟩
theorem kw2 (F : FunD K "__init__" qual (defArgs st) (defBody st) (defScope st) [] [] fI fd) (B : Body2 st f g) (s : Shared) (a v u : Value) : BindsTo s fd ⟨[a], [(g, u), (f, v)]⟩ [(("self" : Str), a), (f, v), (g, u)] := by
  obtain ⟨oc, od, dV, kV, doc, pm, an, cdv, ct, osl, rfl, lk, hcd, hD, hK⟩ := F.ex
  rcases hD with ⟨_, rfl⟩ | ⟨e, _⟩
  · exact .of_eq (B.kb _ _ _ _ _ _ _ _ _ _)
  · exact absurd rfl e
theorem pos2 (F : FunD K "__init__" qual (defArgs st) (defBody st) (defScope st) [] [] fI fd) (B : Body2 st f g) : Binds K fd ["self", f, g] [] :=
  F.bindsN fun _ _ _ _ _ _ us hl => match us, hl with | [_, _, _], _ => B.pb _ _ _ _ _ _ _ _ _ _
end
structure Cl2 (P : Program) (w : World) (K : PySem.W.Frag) (mg : Str → Option Value) (base : Heap) (x f g : Str) (bs : List Str) : Prop where
  e : ErrK K x bs
  mkr : ∃ (fI : Addr) (fd : FuncData), PySem.W.findIn K (.ref (ga K x)) "__init__" = some (some (.ref fI)) ∧ PySem.W.typeIn K (.ref fI) = some (.type "function") ∧
    FnOk P w K mg base CX0 1 fI fd ["self", f, g] (spE2 (ga K x) f g) ∧ Binds K fd ["self", f, g] [] ∧ ∀ (s : Shared) (a v u : Value), BindsTo s fd ⟨[a], [(g, u), (f, v)]⟩ [(("self" : Str), a), (f, v), (g, u)]
  no : PySem.W.findIn K (.ref (ga K x)) f = some none
  no2 : PySem.W.findIn K (.ref (ga K x)) g = some none
  gl : mg x = some (.ref (ga K x))
def wE2 (C : Addr) (f g : Str) (Q : VK) : List V → Hp → Prop := fun vs H1 => match vs with
  | [v, u] => ∀ a d, H1 a = none → H1 d = none → d ≠ a → Q (.ref a) (mkE H1 a d C [(g, u), (f, v)])
  | _ => False
theorem wE2_of {C : Addr} {f g : Str} {Q : VK} : ∀ {vs : List V} {H1 : Hp}, wE2 C f g Q vs H1 → ∃ v u, vs = [v, u] ∧ ∀ a d, H1 a = none → H1 d = none → d ≠ a → Q (.ref a) (mkE H1 a d C [(g, u), (f, v)])
  | [v, u], _, h => ⟨v, u, rfl, h⟩
  | [], _, h => h.elim
  | [_], _, h => h.elim
  | _ :: _ :: _ :: _, _, h => h.elim
section
variable {X : Cx} {x f g : Str} {bs : List Str} {e e2 : Expr} {te te2 : TE} {p pos kpos kpos2 : Pos} {k : Nat}
theorem tE2_to {C : Addr} {f g : Str} {H1 : Hp} {v u : V} {Q : VK} (q : ∀ a d, H1 a = none → H1 d = none → d ≠ a → Q (.ref a) (mkE H1 a d C [(g, u), (f, v)])) (a : Addr) (ha : H1 a = none) :
    spE2 C f g [.ref a, v, u] (upd H1 a (exo a C none)) (fun z H2 => z = .non ∧ Q (.ref a) H2) E0 := by
  refine ⟨a, v, u, rfl, upd_same, fun d hd ne => ⟨rfl, ?_⟩⟩
  rw [upd_ne ne] at hd
  rw [mk2_eq ne]
  exact q a d ha hd ne
/-- x(e, e2) -/
theorem pe_e2 (T : Cl2 X.prog X.w X.K X.mg X.base x f g bs) (hr : Room 2 X.A) (hc : Passes CX0 X E0) (hg : Gl X x) (he : PE X e te) (he2 : PE X e2 te2)
    (hdb : (x == ("__debug__" : Str)) = false := by decide) (hs : starEach [e, e2] X.env = (false, eval e X.env) :: starEach [e2] X.env := by rfl) (hs2 : starEach [e2] X.env = (false, eval e2 X.env) :: starEach [] X.env := by rfl)
    (hpl : (backTo pos (starEach [e2] X.env)).any (·.1) = false := by rfl) :
    PE X (.Call (.Name x p) [e, e2] [] pos) (fun σ H Q => te σ H fun v H1 => te2 σ H1 fun u H2 => wE2 (ga X.K x) f g Q [v, u] H2) := by
  obtain ⟨fI, fd, iC, tI, F1, b1, _⟩ := T.mkr
  refine ⟨fun pins s σ H Q I h => ?_⟩
  refine wpAny_Call_Name_kw (ld_glob I hg T.gl ?_ hdb)
  refine PySem.W.callWith_K (h₀ := X.base) I.ok.mod.kin T.e.ox.kC (thn ((pa_cons he (pa_cons he2 pa_nil (hs := hs2)) (hs := hs)).run pos pins s σ H (wE2 (ga X.K x) f g Q) I h) fun us s1 ⟨vs, H1, I1, r1, q1⟩ => ⟨I1.kIn, ?_⟩) hs hpl
  obtain ⟨v, u, rfl, q⟩ := wE2_of q1
  show wpAny _ _ (call (.ref (ga X.K x)) us) _ _ _
  refine run_err T.e.ox iC tI F1 hr (fun s' a X' => ?_) hc I1 r1 ?_ (fun a ha => tE2_to q a ha)
  · have hl : us.length = 2 := r1.length.symm
    have z := b1 s' (.ref a :: us) X' (by rw [List.append_nil, List.length_cons, hl]; rfl)
    rw [List.append_nil] at z
    exact z
  · rw [← r1.length, sizeLine_eq]
    exact (by decide : 2 ≤ 16777216)
/-- x(g = e, f = e2) -/
theorem pe_e2K (T : Cl2 X.prog X.w X.K X.mg X.base x f g bs) (hr : Room 2 X.A) (hc : Passes CX0 X E0) (hg : Gl X x) (he : PE X e te) (he2 : PE X e2 te2)
    (hall : (backToKw pos (keywordEach [⟨some g, e, kpos⟩, ⟨some f, e2, kpos2⟩] X.env)).all (·.1.isSome) = true := by rfl)
    (hks : (backToKw pos (keywordEach [⟨some g, e, kpos⟩, ⟨some f, e2, kpos2⟩] X.env)).filterMap (·.1) = [g, f] := by rfl)
    (hdb : (x == ("__debug__" : Str)) = false := by decide)
    (hpl : ((backTo pos (starEach [] X.env)).any (·.1) || (backToKw pos (keywordEach [⟨some g, e, kpos⟩, ⟨some f, e2, kpos2⟩] X.env)).any (·.1.isNone)) = false := by rfl) :
    PE X (.Call (.Name x p) [] [⟨some g, e, kpos⟩, ⟨some f, e2, kpos2⟩] pos) (fun σ H Q => te σ H fun u H1 => te2 σ H1 fun v H2 => wE2 (ga X.K x) f g Q [v, u] H2) := by
  obtain ⟨fI, fd, iC, tI, F1, b1, bk⟩ := T.mkr
  refine ⟨fun pins s σ H Q I h => ?_⟩
  refine wpAny_Call_Name_kw (ld_glob I hg T.gl ?_ hdb)
  refine PySem.W.callWith_KW0 (h₀ := X.base) I.ok.mod.kin T.e.ox.kC hall ?_ hpl
  refine thn ((pk_cons he (pk_cons he2 pk_nil)).run pos pins s σ H (fun zs H2 => match zs with
    | [u, v] => wE2 (ga X.K x) f g Q [v, u] H2
    | _ => False) I h) fun ws s2 ⟨zs, H2, I2, rz, q2⟩ => ⟨I2.kIn, ?_⟩
  rw [hks]
  cases rz with
  | nil => exact q2.elim
  | cons r1 rz => cases rz with
    | nil => exact q2.elim
    | cons r2 rz => cases rz with
      | cons r3 rz => exact q2.elim
      | nil =>
        obtain ⟨v, u, e, q⟩ := wE2_of q2
        cases e
        exact run_err T.e.ox iC tI F1 hr (fun s' a X' => bk s' _ _ _) hc I2 (.cons r2 (.cons r1 .nil)) (Nat.zero_le _) (fun a ha => tE2_to q a ha)
end
end EI

/-! K1Fact -/
set_option Elab.async false
set_option linter.all false
set_option maxRecDepth 100000
set_option maxHeartbeats 4000000
namespace K1
open PySem PySem.Spec PyProof.Rows L2 RV EV He EF EI
/-- the errors with one field: name, field, statement, whether of what was asked -/
structure R1 where
  x : Str
  f : Str
  i : Nat
  isIn : Bool
  deriving DecidableEq
def bI : List Str := ["BadInput", "EditionError"]
def bN : List Str := ["NoAnswer", "EditionError"]
def R1.bs (q : R1) : List Str := if q.isIn then bI else bN
def part : List R1 := [⟨"BadBook", "part", 4, true⟩, ⟨"BadClause", "part", 5, true⟩, ⟨"BadFact", "part", 7, true⟩, ⟨"BadHistory", "part", 9, true⟩, ⟨"BadLiteral", "part", 11, true⟩,
  ⟨"BadLot", "part", 12, true⟩, ⟨"BadNeeds", "part", 13, true⟩, ⟨"BadPlace", "part", 15, true⟩, ⟨"BadProject", "part", 17, true⟩, ⟨"BadStanding", "part", 18, true⟩, ⟨"BadWeb", "part", 21, true⟩,
  ⟨"BadWish", "part", 22, true⟩, ⟨"Unlike", "part", 32, false⟩]
def valu : List R1 := [⟨"BadFix", "value", 8, true⟩, ⟨"BadNumber", "value", 14, true⟩, ⟨"BadPrice", "value", 16, true⟩, ⟨"BadWay", "value", 20, true⟩]
def ats : List R1 := [⟨"BadDeed", "at", 6, true⟩, ⟨"Undone", "at", 31, false⟩]
def name : List R1 := [⟨"NoDay", "day", 23, true⟩, ⟨"NoLine", "line", 25, true⟩, ⟨"NoFix", "fix", 24, true⟩, ⟨"Ring", "fix", 27, true⟩, ⟨"NoRelease", "number", 26, true⟩, ⟨"BadLine", "word", 10, true⟩, ⟨"Barred", "clause", 28, false⟩]
def tab : List R1 := part ++ valu ++ ats ++ name
/-- all classes, with those above them -/
def nams : List (Str × List Str) := (tab.map fun q => (q.x, q.bs)) ++ ([("BadText", bI), ("TooMany", bN), ("Nothing", bN), ("BadInput", ["EditionError"]), ("NoAnswer", ["EditionError"]), ("EditionError", [])] : List (Str × List Str))
abbrev R1.st (q : R1) : Stmt := inClass (top q.i) 0
def iniB (K : PySem.W.Frag) (x : Str) (fs : List Str) : Bool :=
  eqO (PySem.W.findIn K (.ref (ga K x)) "__init__") (some (some (.ref (ma K (ga K x) "__init__")))) && (decide (PySem.W.typeIn K (.ref (ma K (ga K x) "__init__")) = some (.type "function")) &&
  fs.all fun f => eqO (PySem.W.findIn K (.ref (ga K x)) f) (some none))
def frees : List Str := ["int", "len", "abs", "list", "repr", "range", "isinstance", "sorted", "ValueError", "LookupError"]
def defsN : List (Str × Nat) := [("_law_pen", 34), ("_law_draw", 35), ("_law_pick", 36), ("_law_some", 37), ("_law_parted", 38), ("_law_valued", 39), ("_law_named", 40), ("_law_kinds", 41), ("_law_is_alone", 42), ("_law_two_right", 43), ("law", 44)]
def plain : List Str := ["Nothing", "BadInput", "NoAnswer", "EditionError"]
def ck (K : PySem.W.Frag) : Bool := objB K && (nams.all fun q => errB K q.1 q.2) && (tab.all fun q => iniB K q.x [q.f]) && iniB K "BadText" ["line", "word"] && iniB K "TooMany" ["what", "most"] &&
  decide ((nams.map fun q => ga K q.1).Nodup) && (frees.all fun x => eqO (PySem.W.nsIn K mainGlobals x) (some none)) && (defsN.all fun q => eqO (PySem.W.nsIn K mainGlobals q.1) (some (some (.ref (ga K q.1))))) &&
  plain.all fun x => PySem.W.excIn K (ga K x) veBase "ValueError.__new__"
def dI (x : Str) (i : Nat) : DefD := ⟨(x, some "__init__"), "__init__", x ++ ".__init__", defArgs (inClass (top i) 0), defBody (inClass (top i) 0), defScope (inClass (top i) 0), [], []⟩
def dF (x : Str) (i : Nat) : DefD := ⟨(x, none), x, x, defArgs (top i), defBody (top i), defScope (top i), [], []⟩
def fns : List DefD := (tab.map fun q => dI q.x q.i) ++ [dI "BadText" 19, dI "TooMany" 30] ++ defsN.map fun q => dF q.1 q.2
abbrev hk2 : PySem.W.Hook := hookX 5 ck fns
def ob2 (s : PySem.W.SharedT) : AlD := obsXG 5 ck fns (HandSHeadRun.getT s)
theorem ob2_eq (s : PySem.W.SharedT) : ob2 s = hk2.obs s.abs := obsXG_eq (HandSHeadRun.getT_eq s)
set_option maxHeartbeats 0 in
theorem run2 (w : World) : HandSHeadRun.RunEq R (PySem.W.view R.prog [44]) hk2 ob2 9500 loose w := by
  intro os
  kernel_rfl
end K1

/-! K1KF -/
set_option Elab.async false
set_option linter.all false
set_option maxRecDepth 100000
set_option maxHeartbeats 4000000
namespace K1
open PySem PySem.Spec PyProof.Rows L2 RV EV He EF EI
structure KF (P : Program) (w : World) (K : PySem.W.Frag) (mg : Str → Option Value) (base : Heap) : Prop where
  b : Blt mg
  fr : ∀ x ∈ frees, mg x = none
  ek : ∀ q ∈ nams, ErrK K q.1 q.2
  gl : ∀ q ∈ nams, mg q.1 = some (.ref (ga K q.1))
  c1 : ∀ q ∈ tab, Cl1 P w K mg base q.x q.f q.bs
  c2 : Cl2 P w K mg base "BadText" "line" "word" bI
  c3 : Cl2 P w K mg base "TooMany" "what" "most" bN
  nd : (nams.map fun q => ga K q.1).Nodup
  ex : ∀ x ∈ plain, PySem.W.excIn K (ga K x) veBase "ValueError.__new__" = true
theorem says_mem {K : PySem.W.Frag} (c : SaysX ck fns K) {d : DefD} (h : d ∈ fns) : ∃ fd, FunD K d.name d.qual d.params d.body d.scope (d.dvs K) (d.kws K) (fAd K d.at_) fd := by
  obtain ⟨i, hi, e⟩ := List.mem_iff_getElem.mp h
  exact c.def_ i (by rw [List.getElem?_eq_getElem hi, e])
theorem b_all : ∀ q ∈ tab, Body1 q.st q.f := by
  repeat' (first | exact List.forall_mem_nil _ | refine List.forall_mem_cons.mpr ⟨⟨⟨_, _, _, _, rfl⟩, rfl, fun _ _ _ _ _ _ _ _ _ => rfl, fun _ _ _ _ _ _ _ _ _ => rfl, by decide, by decide, by decide⟩, ?_⟩)
theorem b_text : Body2 (inClass (top 19) 0) "line" "word" :=
  ⟨⟨_, _, _, _, _, _, _, _, rfl⟩, ⟨rfl, rfl, rfl, by decide +kernel, rfl, by decide +kernel, by decide +kernel⟩, .inl rfl, .inl rfl, .inl rfl, fun _ _ _ _ _ _ _ _ _ _ => rfl, fun _ _ _ _ _ _ _ _ _ _ => rfl, by decide, by decide, by decide, by decide⟩
theorem b_many : Body2 (inClass (top 30) 0) "what" "most" :=
  ⟨⟨_, _, _, _, _, _, _, _, rfl⟩, ⟨rfl, rfl, rfl, by decide +kernel, rfl, by decide +kernel, by decide +kernel⟩, .inl rfl, .inl rfl, .inl rfl, fun _ _ _ _ _ _ _ _ _ _ => rfl, fun _ _ _ _ _ _ _ _ _ _ => rfl, by decide, by decide, by decide, by decide⟩
theorem nams_of {q : R1} (h : q ∈ tab) : (q.x, q.bs) ∈ nams := List.mem_append_left _ (List.mem_map_of_mem h)
theorem kf {P : Program} {w : World} {K : PySem.W.Frag} {h : Heap} {mg : Str → Option Value} (X : K.In h) (G : h.Ns mainGlobals mg) (c : SaysX ck fns K) (base : Heap) : KF P w K mg base := by
  have z : ck K = true := c.chk
  obtain ⟨z, zex⟩ := ba z
  obtain ⟨z, zdf⟩ := ba z
  obtain ⟨z, zfr⟩ := ba z
  obtain ⟨z, znd⟩ := ba z
  obtain ⟨z, zmany⟩ := ba z
  obtain ⟨z, ztext⟩ := ba z
  obtain ⟨z, ztab⟩ := ba z
  obtain ⟨zob, znam⟩ := ba z
  have hfr : ∀ x ∈ frees, mg x = none := fun x hx => PySem.W.mg_none_of X G (eqO_ok (List.all_eq_true.mp zfr x hx))
  have hek : ∀ q ∈ nams, ErrK K q.1 q.2 := fun q hq => errB_ok (List.all_eq_true.mp znam q hq) zob
  have hgl : ∀ q ∈ nams, mg q.1 = some (.ref (ga K q.1)) := fun q hq => PySem.W.mg_of X G (hek q hq).nm
  refine ⟨⟨hfr _ (by decide), hfr _ (by decide), hfr _ (by decide), hfr _ (by decide)⟩, hfr, hek, hgl, fun q hq => ?_, ?_, ?_, of_decide_eq_true znd, fun x hx => List.all_eq_true.mp zex x hx⟩
  · have i := List.all_eq_true.mp ztab q hq
    obtain ⟨i1, i⟩ := ba i
    obtain ⟨i2, i3⟩ := ba i
    have no := eqO_ok (List.all_eq_true.mp i3 q.f (by simp))
    have E := hek _ (nams_of hq)
    have hd : dI q.x q.i ∈ fns := List.mem_append_left _ (List.mem_append_left _ (List.mem_map_of_mem (f := fun q : R1 => dI q.x q.i) hq))
    obtain ⟨fd, F⟩ := says_mem c hd
    exact ⟨E, ⟨_, fd, eqO_ok i1, of_decide_eq_true i2, ok_init1 F (b_all q hq) E.ox no, pos1 F (b_all q hq), kw1 F (b_all q hq)⟩, no, hgl _ (nams_of hq)⟩
  · obtain ⟨i1, i⟩ := ba ztext
    obtain ⟨i2, i3⟩ := ba i
    have no := eqO_ok (List.all_eq_true.mp i3 "line" (by decide))
    have no2 := eqO_ok (List.all_eq_true.mp i3 "word" (by decide))
    have E := hek ("BadText", bI) (by decide)
    obtain ⟨fd, F⟩ := says_mem c (d := dI "BadText" 19) (List.mem_append_left _ (List.mem_append_right _ List.mem_cons_self))
    have F' : FunD K "__init__" ("BadText" ++ ".__init__") (defArgs (inClass (top 19) 0)) (defBody (inClass (top 19) 0)) (defScope (inClass (top 19) 0)) [] [] (ma K (ga K "BadText") "__init__") fd := F
    exact ⟨E, ⟨_, fd, eqO_ok i1, of_decide_eq_true i2, ok_init2 F' b_text E.ox no no2, pos2 F' b_text, kw2 F' b_text⟩, no, no2, hgl ("BadText", bI) (by decide)⟩
  · obtain ⟨i1, i⟩ := ba zmany
    obtain ⟨i2, i3⟩ := ba i
    have no := eqO_ok (List.all_eq_true.mp i3 "what" (by decide))
    have no2 := eqO_ok (List.all_eq_true.mp i3 "most" (by decide))
    have E := hek ("TooMany", bN) (by decide)
    obtain ⟨fd, F⟩ := says_mem c (d := dI "TooMany" 30) (List.mem_append_left _ (List.mem_append_right _ (List.mem_cons_of_mem _ List.mem_cons_self)))
    have F' : FunD K "__init__" ("TooMany" ++ ".__init__") (defArgs (inClass (top 30) 0)) (defBody (inClass (top 30) 0)) (defScope (inClass (top 30) 0)) [] [] (ma K (ga K "TooMany") "__init__") fd := F
    exact ⟨E, ⟨_, fd, eqO_ok i1, of_decide_eq_true i2, ok_init2 F' b_many E.ox no no2, pos2 F' b_many, kw2 F' b_many⟩, no, no2, hgl ("TooMany", bN) (by decide)⟩
end K1

/-! K1Rows -/
set_option Elab.async false
set_option linter.all false
set_option maxRecDepth 100000
set_option maxHeartbeats 4000000
namespace K1
open PySem PySem.Spec PyProof.Rows L2 RV EV He EF EI
abbrev sParted : Stmt := top 38
abbrev sValued : Stmt := top 39
abbrev sNamed : Stmt := top 40
/-- two errors of a class, made of one and of two -/
def PairAt (K : PySem.W.Frag) (H : Hp) (t : Addr) (q : R1) (one two : V) : Prop :=
  ∃ a b d e, H t = some (.tup [.ref a, .ref b]) ∧ ErrAt H a (ga K q.x) d [(q.f, one)] ∧ ErrAt H b (ga K q.x) e [(q.f, two)]
/-- .. with their fields behind them -/
def RowAt (K : PySem.W.Frag) (H : Hp) (t : Addr) (q : R1) (one two : V) : Prop :=
  ∃ a b d e, H t = some (.tup [.ref a, one, .ref b, two]) ∧ ErrAt H a (ga K q.x) d [(q.f, one)] ∧ ErrAt H b (ga K q.x) e [(q.f, two)]
theorem PairAt.same {K : PySem.W.Frag} {H H' : Hp} {t : Addr} {q : R1} {one two : V} (r : PairAt K H t q one two) (k : Same H H') : PairAt K H' t q one two := by
  obtain ⟨a, b, d, e, h, r1, r2⟩ := r
  exact ⟨a, b, d, e, k _ _ h, r1.same k, r2.same k⟩
theorem RowAt.same {K : PySem.W.Frag} {H H' : Hp} {t : Addr} {q : R1} {one two : V} (r : RowAt K H t q one two) (k : Same H H') : RowAt K H' t q one two := by
  obtain ⟨a, b, d, e, h, r1, r2⟩ := r
  exact ⟨a, b, d, e, k _ _ h, r1.same k, r2.same k⟩
/-- a list of things, each as told -/
structure LstOf (W : Hp → Addr → R1 → Prop) (H : Hp) (l : Addr) (ts : List Addr) (qs : List R1) : Prop where
  at_ : H l = some (.lst (ts.map V.ref))
  each : Paired (fun t q => W H t q) ts qs
theorem Paired.imp {α β : Type} {R S : α → β → Prop} (k : ∀ a b, R a b → S a b) : ∀ {xs : List α} {ys : List β}, Paired R xs ys → Paired S xs ys
  | _, _, .nil => .nil
  | _, _, .cons h t => .cons (k _ _ h) (Paired.imp k t)
theorem Paired.app {α β : Type} {R : α → β → Prop} : ∀ {xs zs : List α} {ys ws : List β}, Paired R xs ys → Paired R zs ws → Paired R (xs ++ zs) (ys ++ ws)
  | _, _, _, _, .nil, s => s
  | _, _, _, _, .cons h t, s => .cons h (Paired.app t s)
theorem Paired.at {α β : Type} {R : α → β → Prop} : ∀ {xs : List α} {ys : List β} {i : Nat} {x : α}, Paired R xs ys → xs[i]? = some x → ∃ y, ys[i]? = some y ∧ R x y
  | _, _, _, _, .nil, e => by simp at e
  | _, _, 0, _, .cons h t, e => by simp at e; subst e; exact ⟨_, rfl, h⟩
  | _, _, i + 1, x, .cons h t, e => by
    obtain ⟨y, h1, h2⟩ := Paired.at (i := i) (x := x) t (by simpa using e)
    exact ⟨y, by simpa using h1, h2⟩
theorem PE.imp {X : Cx} {e : Expr} {t t' : TE} (h : PE X e t) (k : ∀ σ H Q, t' σ H Q → t σ H Q) : PE X e t' := ⟨fun pins s σ H Q I q => h.run pins s σ H Q I (k σ H Q q)⟩
theorem PS.imp {X : Cx} {st : Stmt} {t t' : TS} (h : PS X st t) (k : ∀ D σ H, t' D σ H → t D σ H) : PS X st t' := ⟨fun pins s σ H D I q => h.run pins s σ H D I (k D σ H q)⟩
section
variable {X : Cx} {q : R1} {e1 e2 : Expr} {p1 p2 p3 p4 p5 pos : Pos} {kk : Nat} {i j : Nat}
/-- (x(one), x(f = two)) -/
def tPair (K : PySem.W.Frag) (q : R1) (i j : Nat) : TE := fun σ H Q => ∃ one two, σ[i]? = some (some one) ∧ σ[j]? = some (some two) ∧ ∀ t H', Same H H' → PairAt K H' t q one two → Q (.ref t) H'
theorem pair_read {K : PySem.W.Frag} {σ : L2.St} {H : Hp} {Q : VK} (h : tPair K q i j σ H Q) : tTup (tCons (tE1 (ga K q.x) q.f (tVar i)) (tCons (tE1 (ga K q.x) q.f (tVar j)) tNil)) σ H Q := by
  obtain ⟨one, two, h1, h2, k⟩ := h
  refine ⟨one, h1, fun a d na nd ne => ⟨two, h2, fun b e nb nee ne2 => ⟨(by show 2 ≤ sizeLine; decide), fun t nt => ?_⟩⟩⟩
  have s1 := mkE_same (C := ga K q.x) (fs := [(q.f, one)]) na nd
  have s2 := mkE_same (C := ga K q.x) (fs := [(q.f, two)]) nb nee
  have s3 := same_new (o := .tup [.ref a, .ref b]) nt
  exact k t _ (s1.trans (s2.trans s3)) ⟨a, b, d, e, upd_same, ((mkE_at ne).same s2).same s3, (mkE_at ne2).same s3⟩
end
/-- the list of pairs so far, two more -/
def tMore (K : PySem.W.Frag) (qs : List R1) (n : Nat) (more : List R1) (W : V → V → Hp → Addr → R1 → Prop) : TS := fun D σ H => ∃ l ts one two, σ.length = n ∧ σ[0]? = some (some one) ∧ σ[1]? = some (some two) ∧ σ[2]? = some (some (.ref l)) ∧
  LstOf (W one two) H l ts qs ∧ ∀ l' ts' H', Same H H' → LstOf (W one two) H' l' ts' (qs ++ more) → D.nx (σ.set 2 (some (.ref l'))) H'
def pW (K : PySem.W.Frag) (one two : V) : Hp → Addr → R1 → Prop := fun H t q => PairAt K H t q one two
def rW (K : PySem.W.Frag) (one two : V) : Hp → Addr → R1 → Prop := fun H t q => RowAt K H t q one two
theorem LstOf.sameP {K : PySem.W.Frag} {one two : V} {H H' : Hp} {l : Addr} {ts : List Addr} {qs : List R1} (r : LstOf (pW K one two) H l ts qs) (k : Same H H') : LstOf (pW K one two) H' l ts qs :=
  ⟨k _ _ r.at_, Paired.imp (fun _ _ h => PairAt.same h k) r.each⟩
theorem LstOf.sameR {K : PySem.W.Frag} {one two : V} {H H' : Hp} {l : Addr} {ts : List Addr} {qs : List R1} (r : LstOf (rW K one two) H l ts qs) (k : Same H H') : LstOf (rW K one two) H' l ts qs :=
  ⟨k _ _ r.at_, Paired.imp (fun _ _ h => RowAt.same h k) r.each⟩
theorem more_read {K : PySem.W.Frag} {qs : List R1} {q1 q2 : R1} {D : Ends} {σ : L2.St} {H : Hp} {n : Nat} (hz : qs.length ≤ 100) (hn : 3 ≤ n) (h : tMore K qs n [q1, q2] (pW K) D σ H) :
    tAsg (tOp rCat (tVar 2) (tLst (tCons (tPair K q1 0 1) (tCons (tPair K q2 0 1) tNil)))) (gName 2) D σ H := by
  obtain ⟨l, ts, one, two, hl, h0, h1, h2, L, k⟩ := h
  refine ⟨_, h2, one, two, h0, h1, fun t1 H1 s1 r1 => ⟨one, two, h0, h1, fun t2 H2 s2 r2 => ⟨(by show 2 ≤ sizeLine; decide), fun l2 n2 => ?_⟩⟩⟩
  have s3 := same_new (o := .lst [.ref t1, .ref t2]) n2
  have L2 := L.sameP (s1.trans (s2.trans s3))
  have hlen : ts.length = qs.length := L.each.length
  refine ⟨l, l2, _, _, rfl, rfl, L2.at_, upd_same, ?_, fun l3 n3 => ?_⟩
  · rw [List.length_map, hlen, sizeLine_eq]
    show qs.length + 2 ≤ _
    omega
  · have s4 := same_new (o := .lst (ts.map V.ref ++ [.ref t1, .ref t2])) n3
    have L3 := L2.sameP s4
    refine k l3 (ts ++ [t1, t2]) _ (s1.trans (s2.trans (s3.trans s4))) ⟨?_, Paired.app L3.each (.cons ((r1.same s2).same (s3.trans s4)) (.cons (r2.same (s3.trans s4)) .nil))⟩
    rw [List.map_append]
    exact upd_same
theorem first_read {K : PySem.W.Frag} {q1 q2 : R1} {D : Ends} {σ : L2.St} {H : Hp} {one two : V} (h0 : σ[0]? = some (some one)) (h1 : σ[1]? = some (some two))
    (k : ∀ l ts H', Same H H' → LstOf (pW K one two) H' l ts [q1, q2] → D.nx (σ.set 2 (some (.ref l))) H') :
    tAsg (tLst (tCons (tPair K q1 0 1) (tCons (tPair K q2 0 1) tNil))) (gName 2) D σ H := by
  refine ⟨one, two, h0, h1, fun t1 H1 s1 r1 => ⟨one, two, h0, h1, fun t2 H2 s2 r2 => ⟨(by show 2 ≤ sizeLine; decide), fun l2 n2 => ?_⟩⟩⟩
  have s3 := same_new (o := .lst [.ref t1, .ref t2]) n2
  exact k l2 [t1, t2] _ (s1.trans (s2.trans s3)) ⟨upd_same, .cons ((r1.same s2).same s3) (.cons (r2.same s3) .nil)⟩
end K1

/-! K1Part -/
set_option Elab.async false
set_option linter.all false
set_option maxRecDepth 100000
set_option maxHeartbeats 4000000
namespace K1
open PySem PySem.Spec PyProof.Rows L2 RV EV He EF EI
theorem yes_to {σ : L2.St} {H : Hp} {F G : Hp → Prop} (h : F H) : tYes σ H (fun b H3 => if b = true then F H3 else G H3) := by
  show if true = true then F H else G H
  rw [if_pos rfl]
  exact h
/-- what a class must be, so that its field f is read -/
def Reads1 (K : PySem.W.Frag) (q : R1) : Prop := XfC K (ga K q.x) ∧ PySem.W.findIn K (.ref (ga K q.x)) q.f = some none
theorem comp_read {K : PySem.W.Frag} {qs : List R1} {σ : L2.St} {H : Hp} {Q : VK} {i j s : Nat} {f : Str} {l : Addr} {ts : List Addr} {one two : V}
    (hq : ∀ q ∈ qs, q.f = f ∧ Reads1 K q) (hw : ∀ v w, wipe (((wipe σ [i, j]).set i v).set j w) [i, j] = wipe σ [i, j])
    (hi : ∀ v w, (((wipe σ [i, j]).set i (some v)).set j w)[i]? = some (some v)) (hj : ∀ v w, (((wipe σ [i, j]).set i v).set j (some w))[j]? = some (some w))
    (hs : σ[s]? = some (some (.ref l))) (L : LstOf (pW K one two) H l ts qs) (hz : qs.length ≤ 100)
    (k : ∀ r rs H', Same H H' → LstOf (rW K one two) H' r rs qs → Q (.ref r) H') :
    tLc (iList K (tVar s)) (gTup K 2 (gCons (gName i) (gCons (gName j) gNil))) tYes
      (tTup (tCons (tVar i) (tCons (tEf K (tVar i) f) (tCons (tVar j) (tCons (tEf K (tVar j) f) tNil))))) [i, j] σ H Q := by
  have hlen : ts.length = qs.length := L.each.length
  refine ⟨_, hs, l, rfl, ⟨_, SqL.of L.at_⟩, fun D nD => lc_list (K := K) (a := l) (xs := ts.map V.ref)
    (fun n H' => ∃ rs, Same H H' ∧ H' D = some (.lst (rs.map V.ref)) ∧ Paired (fun t q => rW K one two H' t q) rs (qs.take n)) ⟨[], same_new nD, upd_same, .nil⟩
    (fun n H' _ ⟨_, s1, _⟩ => s1.seq (SqL.of L.at_)) ?_ ?_⟩
  · rintro n x H1 hx ⟨rs, s1, hD, hr⟩
    rw [List.getElem?_map] at hx
    obtain ⟨t, ht, rfl⟩ : ∃ t, ts[n]? = some t ∧ x = V.ref t := by
      cases e : ts[n]? with
      | none => rw [e] at hx; cases hx
      | some t => rw [e] at hx; exact ⟨t, rfl, (Option.some.inj hx).symm⟩
    obtain ⟨q, hqn, hp⟩ := Paired.at L.each ht
    obtain ⟨a, b, d, e, h1, h2, h3⟩ := PairAt.same hp s1
    obtain ⟨hf, hx1, hx2⟩ := hq q (List.mem_of_getElem? hqn)
    subst hf
    refine ⟨t, _, rfl, SqT.of h1, rfl, _, _, rfl, _, _, rfl, rfl, hw _ _, ?_⟩
    refine yes_to ?_
    refine ⟨_, hi _ _, _, hi _ _, a, _, d, _, one, rfl, h2, hx1, hx2, ?_, _, hj _ _, _, hj _ _, b, _, e, _, two, rfl, h3, hx1, hx2, ?_, (by show 4 ≤ sizeLine; decide), fun p np => ?_⟩
    · simp [List.lookup]
    · simp [List.lookup]
    · have s2 := same_new (o := .tup [.ref a, one, .ref b, two]) np
      refine ⟨rs.map V.ref, s2 _ _ hD, ?_, rs ++ [p], ?_, ?_, ?_⟩
      · have z : rs.length ≤ qs.length := by
          have z1 := hr.length
          rw [List.length_take] at z1
          omega
        rw [List.length_map, sizeLine_eq]
        omega
      · intro c o hc
        rw [upd_ne (ne_of_none hc nD)]
        exact s2 _ _ (s1 _ _ hc)
      · rw [List.map_append]
        exact upd_same
      · have more : qs.take (n + 1) = qs.take n ++ [q] := by
          obtain ⟨hn, hv⟩ := List.getElem?_eq_some_iff.mp hqn
          rw [← hv]
          exact List.take_succ_eq_append_getElem hn
        rw [more]
        have pD : p ≠ D := (ne_of_none hD np).symm
        have keep : ∀ c o, c ≠ D → H1 c = some o → upd (upd H1 p (.tup [.ref a, one, .ref b, two])) D (.lst (rs.map V.ref ++ [.ref p])) c = some o := fun c o hc e => by
          rw [upd_ne hc]
          exact s2 _ _ e
        have errK : ∀ {c C d' : Addr} {fs : List (Str × V)}, ErrAt H1 c C d' fs → ErrAt (upd (upd H1 p (.tup [.ref a, one, .ref b, two])) D (.lst (rs.map V.ref ++ [.ref p]))) c C d' fs := fun r =>
          ⟨keep _ _ (fun z => by rw [← z, r.ob] at hD; cases hD) r.ob, keep _ _ (fun z => by rw [← z, r.dc] at hD; cases hD) r.dc⟩
        refine Paired.app (Paired.imp (fun t' q' h => ?_) hr) (.cons ?_ .nil)
        · obtain ⟨a', b', d', e', g1, g2, g3⟩ := h
          exact ⟨a', b', d', e', keep _ _ (fun z => by rw [← z, g1] at hD; cases hD) g1, errK g2, errK g3⟩
        · exact ⟨a, b, d, e, by rw [upd_ne pD, upd_same], errK h2, errK h3⟩
  · rintro H1 ⟨rs, s1, hD, hr⟩
    rw [List.length_map, hlen, List.take_length] at hr
    exact k D rs H1 s1 ⟨hD, hr⟩
end K1

/-! K1Parted -/
set_option Elab.async false
set_option linter.all false
set_option maxRecDepth 100000
set_option maxHeartbeats 8000000
namespace K1
open PySem PySem.Spec PyProof.Rows L2 RV EV He EF EI
theorem mt {q : R1} (k : Nat) (h : tab[k]? = some q) : q ∈ tab := List.mem_of_getElem? h
theorem pe_pair {X : Cx} {q : R1} {e1 e2 : Expr} {p1 p2 p3 p4 pos kpos : Pos} {kk : Nat} {i j : Nat} (T : Cl1 X.prog X.w X.K X.mg X.base q.x q.f q.bs) (hr : Room 2 X.A) (hc : Passes CX0 X E0) (hg : Gl X q.x)
    (hdb : (q.x == ("__debug__" : Str)) = false) (he : PE X e1 (tVar i)) (he2 : PE X e2 (tVar j))
    (h1 : starEach [e1] X.env = (false, eval e1 X.env) :: starEach [] X.env := by rfl) (h2 : (backTo p2 (starEach [] X.env)).any (·.1) = false := by rfl)
    (h3 : (backToKw p4 (keywordEach [⟨some q.f, e2, kpos⟩] X.env)).all (·.1.isSome) = true := by rfl)
    (h4 : (backToKw p4 (keywordEach [⟨some q.f, e2, kpos⟩] X.env)).filterMap (·.1) = [q.f] := by rfl)
    (h5 : ((backTo p4 (starEach [] X.env)).any (·.1) || (backToKw p4 (keywordEach [⟨some q.f, e2, kpos⟩] X.env)).any (·.1.isNone)) = false := by rfl)
    (h6 : starEach [.Call (.Name q.x p1) [e1] [] p2, .Call (.Name q.x p3) [] [⟨some q.f, e2, kpos⟩] p4] X.env = (false, eval (.Call (.Name q.x p1) [e1] [] p2) X.env) :: starEach [.Call (.Name q.x p3) [] [⟨some q.f, e2, kpos⟩] p4] X.env := by rfl)
    (h7 : starEach [.Call (.Name q.x p3) [] [⟨some q.f, e2, kpos⟩] p4] X.env = (false, eval (.Call (.Name q.x p3) [] [⟨some q.f, e2, kpos⟩] p4) X.env) :: starEach [] X.env := by rfl) :
    PE X (.Tuple [.Call (.Name q.x p1) [e1] [] p2, .Call (.Name q.x p3) [] [⟨some q.f, e2, kpos⟩] p4] kk pos) (tPair X.K q i j) :=
  PE.imp (pe_tup (pa_cons (pe_e1 T hr hc hg he hdb h1 h2) (pa_cons (pe_e1K T hr hc hg he2 h3 h4 hdb h5) pa_nil (hs := h7)) (hs := h6))) fun _ _ _ h => pair_read h
theorem more1_read {K : PySem.W.Frag} {qs : List R1} {q1 : R1} {D : Ends} {σ : L2.St} {H : Hp} {n : Nat} (hz : qs.length ≤ 100) (h : tMore K qs n [q1] (pW K) D σ H) :
    tAsg (tOp rCat (tVar 2) (tLst (tCons (tPair K q1 0 1) tNil))) (gName 2) D σ H := by
  obtain ⟨l, ts, one, two, hl, h0, h1, h2, L, k⟩ := h
  refine ⟨_, h2, one, two, h0, h1, fun t1 H1 s1 r1 => ⟨(by show 1 ≤ sizeLine; decide), fun l2 n2 => ?_⟩⟩
  have s3 := same_new (o := .lst [.ref t1]) n2
  have L2 := L.sameP (s1.trans s3)
  have hlen : ts.length = qs.length := L.each.length
  refine ⟨l, l2, _, _, rfl, rfl, L2.at_, upd_same, ?_, fun l3 n3 => ?_⟩
  · rw [List.length_map, hlen, sizeLine_eq]
    show qs.length + 1 ≤ _
    omega
  · have s4 := same_new (o := .lst (ts.map V.ref ++ [.ref t1])) n3
    have L3 := L2.sameP s4
    refine k l3 (ts ++ [t1]) _ (s1.trans (s3.trans s4)) ⟨?_, Paired.app L3.each (.cons (r1.same (s3.trans s4)) .nil)⟩
    rw [List.map_append]
    exact upd_same
def spRows (K : PySem.W.Frag) (qs : List R1) : Sp := fun vs H Q _ => ∃ one two, vs = [one, two] ∧ ∀ r rs H', Same H H' → LstOf (rW K one two) H' r rs qs → Q (.ref r) H'
section
variable {P : Program} {w : World} {K : PySem.W.Frag} {mg : Str → Option Value} {base : Heap} {f : Addr} {fd : FuncData}
theorem reads_of (T : KF P w K mg base) {qs : List R1} (h : ∀ q ∈ qs, q ∈ tab) (f : Str) (hf : ∀ q ∈ qs, q.f = f) : ∀ q ∈ qs, q.f = f ∧ Reads1 K q :=
  fun q hq => ⟨hf q hq, (T.c1 q (h q hq)).e.xf, (T.c1 q (h q hq)).no⟩
abbrev scParted_N : List Str := ["_law_one", "_law_two", "_law_found", "_law_first", "_law_second"]
theorem scParted : FnScope scParted_N ["_law_one", "_law_two"] (defScope sParted) := ⟨rfl, rfl, rfl, by decide +kernel, rfl, by decide +kernel, by decide +kernel⟩
theorem ok_parted (F : FnP K "_law_parted" sParted f fd) (T : KF P w K mg base) : FnOk P w K mg base CX0 3 f fd ["_law_one", "_law_two"] (spRows K part) := by
  refine F.ok scParted (fun vs H Q E h => ?_) (fun cdv A outer s H vs Q E hr h => ?_)
  · obtain ⟨one, two, rfl, _⟩ := h
    rfl
  · obtain ⟨one, two, rfl, k⟩ := h
    refine ⟨_, PSs.nox (pss_cons (ps_set (i := 2) scParted.nd rfl (.inl rfl) (pe_lst (pa_cons (pe_pair (q := ⟨"BadBook", "part", 4, true⟩) (T.c1 _ (mt 0 rfl)) hr pass0 (by rfl) (by rfl) (pv 0) (pv 1)) (pa_cons (pe_pair (q := ⟨"BadClause", "part", 5, true⟩) (T.c1 _ (mt 1 rfl)) hr pass0 (by rfl) (by rfl) (pv 0) (pv 1)) pa_nil))))
      (pss_cons (ps_set (i := 2) scParted.nd rfl (.inl rfl) (pe_op op_cat (pv 2) (pe_lst (pa_cons (pe_pair (q := ⟨"BadFact", "part", 7, true⟩) (T.c1 _ (mt 2 rfl)) hr pass0 (by rfl) (by rfl) (pv 0) (pv 1)) (pa_cons (pe_pair (q := ⟨"BadHistory", "part", 9, true⟩) (T.c1 _ (mt 3 rfl)) hr pass0 (by rfl) (by rfl) (pv 0) (pv 1)) pa_nil)))))
      (pss_cons (ps_set (i := 2) scParted.nd rfl (.inl rfl) (pe_op op_cat (pv 2) (pe_lst (pa_cons (pe_pair (q := ⟨"BadLiteral", "part", 11, true⟩) (T.c1 _ (mt 4 rfl)) hr pass0 (by rfl) (by rfl) (pv 0) (pv 1)) (pa_cons (pe_pair (q := ⟨"BadLot", "part", 12, true⟩) (T.c1 _ (mt 5 rfl)) hr pass0 (by rfl) (by rfl) (pv 0) (pv 1)) pa_nil)))))
      (pss_cons (ps_set (i := 2) scParted.nd rfl (.inl rfl) (pe_op op_cat (pv 2) (pe_lst (pa_cons (pe_pair (q := ⟨"BadNeeds", "part", 13, true⟩) (T.c1 _ (mt 6 rfl)) hr pass0 (by rfl) (by rfl) (pv 0) (pv 1)) (pa_cons (pe_pair (q := ⟨"BadPlace", "part", 15, true⟩) (T.c1 _ (mt 7 rfl)) hr pass0 (by rfl) (by rfl) (pv 0) (pv 1)) pa_nil)))))
      (pss_cons (ps_set (i := 2) scParted.nd rfl (.inl rfl) (pe_op op_cat (pv 2) (pe_lst (pa_cons (pe_pair (q := ⟨"BadProject", "part", 17, true⟩) (T.c1 _ (mt 8 rfl)) hr pass0 (by rfl) (by rfl) (pv 0) (pv 1)) (pa_cons (pe_pair (q := ⟨"BadStanding", "part", 18, true⟩) (T.c1 _ (mt 9 rfl)) hr pass0 (by rfl) (by rfl) (pv 0) (pv 1)) pa_nil)))))
      (pss_cons (ps_set (i := 2) scParted.nd rfl (.inl rfl) (pe_op op_cat (pv 2) (pe_lst (pa_cons (pe_pair (q := ⟨"BadWeb", "part", 21, true⟩) (T.c1 _ (mt 10 rfl)) hr pass0 (by rfl) (by rfl) (pv 0) (pv 1)) (pa_cons (pe_pair (q := ⟨"BadWish", "part", 22, true⟩) (T.c1 _ (mt 11 rfl)) hr pass0 (by rfl) (by rfl) (pv 0) (pv 1)) pa_nil)))))
      (pss_cons (ps_set (i := 2) scParted.nd rfl (.inl rfl) (pe_op op_cat (pv 2) (pe_lst (pa_cons (pe_pair (q := ⟨"Unlike", "part", 32, false⟩) (T.c1 _ (mt 12 rfl)) hr pass0 (by rfl) (by rfl) (pv 0) (pv 1)) pa_nil))))
      (pss_one (ps_ret (pe_lc (own := [("_law_first", 3), ("_law_second", 4)]) (g := gTup K 2 (gCons (gName 3) (gCons (gName 4) gNil))) (tt := tYes) (te := tTup (tCons (tVar 3) (tCons (tEf K (tVar 3) "part") (tCons (tVar 4) (tCons (tEf K (tVar 4) "part") tNil))))) rfl scParted.nd (pi_list (pv 2)) (blkOk_by (N := scParted_N) (sc := defScope sParted) (by decide +kernel))
        (fun _ _ _ _ _ => pg_tup rfl (pgs_cons (pg_name (i := 3) scParted.nd rfl (.inl rfl)) (pgs_cons (pg_name (i := 4) scParted.nd rfl (.inl rfl)) pgs_nil))) (fun _ _ _ _ _ => pts_nil)
        (fun _ _ _ _ _ => pe_tup (pa_cons (pv 3) (pa_cons (pe_ef (pv 3)) (pa_cons (pv 4) (pa_cons (pe_ef (pv 4)) pa_nil))))))))))))))), ?_⟩
    refine first_read rfl rfl fun l ts H1 s1 L => ?_
    refine more_read (by decide) (n := 5) (by decide) ⟨l, ts, one, two, rfl, rfl, rfl, rfl, L, fun l ts H2 s2 L => ?_⟩
    have s1 := s1.trans s2
    clear s2
    refine more_read (by decide) (n := 5) (by decide) ⟨l, ts, one, two, rfl, rfl, rfl, rfl, L, fun l ts H2 s2 L => ?_⟩
    have s1 := s1.trans s2
    clear s2
    refine more_read (by decide) (n := 5) (by decide) ⟨l, ts, one, two, rfl, rfl, rfl, rfl, L, fun l ts H2 s2 L => ?_⟩
    have s1 := s1.trans s2
    clear s2
    refine more_read (by decide) (n := 5) (by decide) ⟨l, ts, one, two, rfl, rfl, rfl, rfl, L, fun l ts H2 s2 L => ?_⟩
    have s1 := s1.trans s2
    clear s2
    refine more_read (by decide) (n := 5) (by decide) ⟨l, ts, one, two, rfl, rfl, rfl, rfl, L, fun l ts H2 s2 L => ?_⟩
    have s1 := s1.trans s2
    clear s2
    refine more1_read (by decide) (n := 5) ⟨l, ts, one, two, rfl, rfl, rfl, rfl, L, fun l ts H2 s2 L => ?_⟩
    have s1 := s1.trans s2
    exact comp_read (reads_of T (qs := part) (fun q hq => List.mem_append_left _ (List.mem_append_left _ (List.mem_append_left _ hq))) "part" (by decide)) (fun _ _ => rfl) (fun _ _ => rfl) (fun _ _ => rfl) rfl L (by decide)
      fun r rs H' s3 R => k r rs H' (s1.trans s3) R
end
end K1

/-! K1Valued -/
set_option Elab.async false
set_option linter.all false
set_option maxRecDepth 100000
set_option maxHeartbeats 8000000
namespace K1
open PySem PySem.Spec PyProof.Rows L2 RV EV He EF EI
section
variable {P : Program} {w : World} {K : PySem.W.Frag} {mg : Str → Option Value} {base : Heap} {f : Addr} {fd : FuncData}
/-- a display of pairs -/
def pairs (K : PySem.W.Frag) : List R1 → TA
  | [] => tNil
  | q :: r => tCons (tPair K q 0 1) (pairs K r)
theorem pairs_read {σ : L2.St} {one two : V} (h0 : σ[0]? = some (some one)) (h1 : σ[1]? = some (some two)) : ∀ (qs : List R1) {H : Hp} {Q : List V → Hp → Prop},
    (∀ ts H', Same H H' → Paired (fun t q => pW K one two H' t q) ts qs → Q (ts.map V.ref) H') → pairs K qs σ H Q
  | [], H, Q, k => k [] H (Same.refl _) .nil
  | q :: r, H, Q, k => by
    refine ⟨one, two, h0, h1, fun t H1 s1 r1 => pairs_read h0 h1 r fun ts H2 s2 r2 => ?_⟩
    exact k (t :: ts) H2 (s1.trans s2) (.cons (PairAt.same r1 s2) r2)
theorem lst_read {σ : L2.St} {one two : V} (h0 : σ[0]? = some (some one)) (h1 : σ[1]? = some (some two)) {qs : List R1} {H : Hp} {Q : VK} (hz : qs.length ≤ 100)
    (k : ∀ l ts H', Same H H' → LstOf (pW K one two) H' l ts qs → Q (.ref l) H') : tLst (pairs K qs) σ H Q := by
  refine pairs_read h0 h1 qs fun ts H1 s1 r1 => ⟨?_, fun l n => ?_⟩
  · rw [List.length_map, r1.length, sizeLine_eq]
    omega
  · have s2 := same_new (o := .lst (ts.map V.ref)) n
    exact k l ts _ (s1.trans s2) ⟨upd_same, Paired.imp (fun _ _ h => PairAt.same h s2) r1⟩
theorem lst_asg {σ : L2.St} {one two : V} {n : Nat} {D : Ends} {qs : List R1} {H : Hp} (h0 : σ[0]? = some (some one)) (h1 : σ[1]? = some (some two)) (hz : qs.length ≤ 100)
    (k : ∀ l ts H', Same H H' → LstOf (pW K one two) H' l ts qs → D.nx (σ.set n (some (.ref l))) H') : tAsg (tLst (pairs K qs)) (gName n) D σ H :=
  lst_read (Q := fun x H1 => gName n x σ H1 D.nx) h0 h1 hz k
theorem comp_asg {qs : List R1} {σ : L2.St} {H : Hp} {D : Ends} {i j s n : Nat} {f : Str} {l : Addr} {ts : List Addr} {one two : V}
    (hq : ∀ q ∈ qs, q.f = f ∧ Reads1 K q) (hw : ∀ v w, wipe (((wipe σ [i, j]).set i v).set j w) [i, j] = wipe σ [i, j])
    (hi : ∀ v w, (((wipe σ [i, j]).set i (some v)).set j w)[i]? = some (some v)) (hj : ∀ v w, (((wipe σ [i, j]).set i v).set j (some w))[j]? = some (some w))
    (hs : σ[s]? = some (some (.ref l))) (L : LstOf (pW K one two) H l ts qs) (hz : qs.length ≤ 100)
    (k : ∀ r rs H', Same H H' → LstOf (rW K one two) H' r rs qs → D.nx (σ.set n (some (.ref r))) H') :
    tAsg (tLc (iList K (tVar s)) (gTup K 2 (gCons (gName i) (gCons (gName j) gNil))) tYes
      (tTup (tCons (tVar i) (tCons (tEf K (tVar i) f) (tCons (tVar j) (tCons (tEf K (tVar j) f) tNil))))) [i, j]) (gName n) D σ H :=
  comp_read (Q := fun x H1 => gName n x σ H1 D.nx) hq hw hi hj hs L hz k
abbrev scValued_N : List Str := ["_law_one", "_law_two", "_law_found", "_law_rows", "_law_some_here", "_law_first", "_law_second"]
theorem scValued : FnScope scValued_N ["_law_one", "_law_two"] (defScope sValued) := ⟨rfl, rfl, rfl, by decide +kernel, rfl, by decide +kernel, by decide +kernel⟩
theorem ok_valued (F : FnP K "_law_valued" sValued f fd) (T : KF P w K mg base) : FnOk P w K mg base CX0 3 f fd ["_law_one", "_law_two"] (spRows K (valu ++ ats)) := by
  refine F.ok scValued (fun vs H Q E h => ?_) (fun cdv A outer s H vs Q E hr h => ?_)
  · obtain ⟨one, two, rfl, _⟩ := h
    rfl
  · obtain ⟨one, two, rfl, k⟩ := h
    refine ⟨_, PSs.nox (pss_cons (ps_set (i := 2) scValued.nd rfl (.inl rfl) (pe_lst (pa_cons (pe_pair (q := ⟨"BadFix", "value", 8, true⟩) (T.c1 _ (mt 13 rfl)) hr pass0 (by rfl) (by rfl) (pv 0) (pv 1)) (pa_cons (pe_pair (q := ⟨"BadNumber", "value", 14, true⟩) (T.c1 _ (mt 14 rfl)) hr pass0 (by rfl) (by rfl) (pv 0) (pv 1)) (pa_cons (pe_pair (q := ⟨"BadPrice", "value", 16, true⟩) (T.c1 _ (mt 15 rfl)) hr pass0 (by rfl) (by rfl) (pv 0) (pv 1)) (pa_cons (pe_pair (q := ⟨"BadWay", "value", 20, true⟩) (T.c1 _ (mt 16 rfl)) hr pass0 (by rfl) (by rfl) (pv 0) (pv 1)) pa_nil))))))
      (pss_cons (ps_setLc (i := 3) (y := "_law_rows") (own := [("_law_first", 5), ("_law_second", 6)]) (g := gTup K 2 (gCons (gName 5) (gCons (gName 6) gNil))) (tt := tYes) (te := tTup (tCons (tVar 5) (tCons (tEf K (tVar 5) "value") (tCons (tVar 6) (tCons (tEf K (tVar 6) "value") tNil))))) rfl scValued.nd rfl rfl (sw_true rfl rfl rfl (by decide +kernel)) (pi_list (pv 2)) (blkOk_by (N := scValued_N) (sc := defScope sValued) (by decide +kernel))
        (fun _ _ _ _ _ => pg_tup rfl (pgs_cons (pg_name (i := 5) scValued.nd rfl (.inl rfl)) (pgs_cons (pg_name (i := 6) scValued.nd rfl (.inl rfl)) pgs_nil))) (fun _ _ _ _ _ => pts_nil)
        (fun _ _ _ _ _ => pe_tup (pa_cons (pv 5) (pa_cons (pe_ef (pv 5)) (pa_cons (pv 6) (pa_cons (pe_ef (pv 6)) pa_nil))))))
      (pss_cons (ps_set (i := 4) scValued.nd rfl (.inl rfl) (pe_lst (pa_cons (pe_pair (q := ⟨"BadDeed", "at", 6, true⟩) (T.c1 _ (mt 17 rfl)) hr pass0 (by rfl) (by rfl) (pv 0) (pv 1)) (pa_cons (pe_pair (q := ⟨"Undone", "at", 31, false⟩) (T.c1 _ (mt 18 rfl)) hr pass0 (by rfl) (by rfl) (pv 0) (pv 1)) pa_nil))))
      (pss_one (ps_ret (pe_op op_cat (pv 3) (pe_lc (own := [("_law_first", 5), ("_law_second", 6)]) (g := gTup K 2 (gCons (gName 5) (gCons (gName 6) gNil))) (tt := tYes) (te := tTup (tCons (tVar 5) (tCons (tEf K (tVar 5) "at") (tCons (tVar 6) (tCons (tEf K (tVar 6) "at") tNil))))) rfl scValued.nd (pi_list (pv 4)) (blkOk_by (N := scValued_N) (sc := defScope sValued) (by decide +kernel))
        (fun _ _ _ _ _ => pg_tup rfl (pgs_cons (pg_name (i := 5) scValued.nd rfl (.inl rfl)) (pgs_cons (pg_name (i := 6) scValued.nd rfl (.inl rfl)) pgs_nil))) (fun _ _ _ _ _ => pts_nil)
        (fun _ _ _ _ _ => pe_tup (pa_cons (pv 5) (pa_cons (pe_ef (pv 5)) (pa_cons (pv 6) (pa_cons (pe_ef (pv 6)) pa_nil)))))))))))), ?_⟩
    refine lst_asg (K := K) (qs := valu) (one := one) (two := two) rfl rfl (by decide) fun l ts H1 s1 L => ?_
    refine comp_asg (reads_of T (qs := valu) (fun q hq => List.mem_append_left _ (List.mem_append_left _ (List.mem_append_right _ hq))) "value" (by decide)) (fun _ _ => rfl) (fun _ _ => rfl) (fun _ _ => rfl) rfl L (by decide)
      fun r rs H2 s2 R => ?_
    refine lst_asg (K := K) (qs := ats) (one := one) (two := two) rfl rfl (by decide) fun l2 ts2 H3 s3 L2 => ?_
    refine ⟨_, rfl, comp_read (reads_of T (qs := ats) (fun q hq => List.mem_append_left _ (List.mem_append_right _ hq)) "at" (by decide)) (fun _ _ => rfl) (fun _ _ => rfl) (fun _ _ => rfl) rfl L2 (by decide)
      fun r2 rs2 H4 s4 R2 => ?_⟩
    have R1 := R.sameR (s3.trans s4)
    refine ⟨r, r2, _, _, rfl, rfl, R1.at_, R2.at_, ?_, fun p np => ?_⟩
    · rw [List.length_map, List.length_map, R1.each.length, R2.each.length]
      decide
    · have s5 := same_new (o := .lst (rs.map V.ref ++ rs2.map V.ref)) np
      refine k p (rs ++ rs2) _ (s1.trans (s2.trans (s3.trans (s4.trans s5)))) ⟨?_, Paired.app (R1.sameR s5).each (R2.sameR s5).each⟩
      rw [List.map_append]
      exact upd_same
end
end K1

/-! K1Named -/
set_option Elab.async false
set_option linter.all false
set_option maxRecDepth 100000
set_option maxHeartbeats 400000
namespace K1
open PySem PySem.Spec PyProof.Rows L2 RV EV He EF EI
/-- two errors of a class -/
def E2 (K : PySem.W.Frag) (H : Hp) (a b : Addr) (q : R1) (one two : V) : Prop := (∃ d, ErrAt H a (ga K q.x) d [(q.f, one)]) ∧ ∃ d, ErrAt H b (ga K q.x) d [(q.f, two)]
theorem E2.same {K : PySem.W.Frag} {H H' : Hp} {a b : Addr} {q : R1} {one two : V} (r : E2 K H a b q one two) (k : Same H H') : E2 K H' a b q one two := by
  obtain ⟨⟨d, r1⟩, e, r2⟩ := r
  exact ⟨⟨d, r1.same k⟩, e, r2.same k⟩
theorem args_read {K : PySem.W.Frag} {q : R1} {rest : TA} {σ : L2.St} {H : Hp} {Q : List V → Hp → Prop} {one two : V} (h0 : σ[0]? = some (some one)) (h1 : σ[1]? = some (some two))
    (k : ∀ a b H', Same H H' → E2 K H' a b q one two → rest σ H' fun xs H2 => Q (.ref a :: .ref b :: xs) H2) :
    tCons (tE1 (ga K q.x) q.f (tVar 0)) (tCons (tE1 (ga K q.x) q.f (tVar 1)) rest) σ H Q := by
  refine ⟨one, h0, fun a d na nd ne => ⟨two, h1, fun b e nb nee ne2 => ?_⟩⟩
  have s1 := mkE_same (C := ga K q.x) (fs := [(q.f, one)]) na nd
  have s2 := mkE_same (C := ga K q.x) (fs := [(q.f, two)]) nb nee
  exact k a b _ (s1.trans s2) ⟨⟨d, (mkE_at ne).same s2⟩, e, mkE_at ne2⟩
theorem row_read {K : PySem.W.Frag} {q : R1} {i j : Nat} {σ : L2.St} {H : Hp} {Q : VK} {one two : V} {a b : Addr} (h0 : σ[i]? = some (some (.ref a))) (h1 : σ[j]? = some (some (.ref b))) (r : E2 K H a b q one two) (hq : Reads1 K q)
    (k : ∀ t H', Same H H' → RowAt K H' t q one two → Q (.ref t) H') : tTup (tCons (tVar i) (tCons (tEf K (tVar i) q.f) (tCons (tVar j) (tCons (tEf K (tVar j) q.f) tNil)))) σ H Q := by
  obtain ⟨⟨d, r1⟩, e, r2⟩ := r
  refine ⟨_, h0, _, h0, a, _, d, _, one, rfl, r1, hq.1, hq.2, ?_, _, h1, _, h1, b, _, e, _, two, rfl, r2, hq.1, hq.2, ?_, (by show 4 ≤ sizeLine; decide), fun p np => ?_⟩
  · simp [List.lookup]
  · simp [List.lookup]
  · have s := same_new (o := .tup [.ref a, one, .ref b, two]) np
    exact k p _ s ⟨a, b, d, e, upd_same, r1.same s, r2.same s⟩
/-- a row of two errors that stand in slots -/
def tRow (K : PySem.W.Frag) (q : R1) (i j : Nat) : TE := fun σ H Q => ∃ a b one two, σ[i]? = some (some (.ref a)) ∧ σ[j]? = some (some (.ref b)) ∧ E2 K H a b q one two ∧ Reads1 K q ∧ ∀ t H', Same H H' → RowAt K H' t q one two → Q (.ref t) H'
/-- two errors among arguments -/
def tTwo (K : PySem.W.Frag) (q : R1) (rest : TA) : TA := fun σ H Q => ∃ one two, σ[0]? = some (some one) ∧ σ[1]? = some (some two) ∧ ∀ a b H', Same H H' → E2 K H' a b q one two → rest σ H' fun xs H2 => Q (.ref a :: .ref b :: xs) H2
theorem PA.imp {X : Cx} {es : List Expr} {t t' : TA} (h : PA X es t) (k : ∀ σ H Q, t' σ H Q → t σ H Q) : PA X es t' := ⟨fun pos pins s σ H Q I q => h.run pos pins s σ H Q I (k σ H Q q)⟩
theorem row_imp {K : PySem.W.Frag} {q : R1} {i j : Nat} {σ : L2.St} {H : Hp} {Q : VK} (h : tRow K q i j σ H Q) : tTup (tCons (tVar i) (tCons (tEf K (tVar i) q.f) (tCons (tVar j) (tCons (tEf K (tVar j) q.f) tNil)))) σ H Q := by
  obtain ⟨a, b, one, two, h0, h1, r, hq, k⟩ := h
  exact row_read h0 h1 r hq k
theorem two_imp {K : PySem.W.Frag} {q : R1} {rest : TA} {σ : L2.St} {H : Hp} {Q : List V → Hp → Prop} (h : tTwo K q rest σ H Q) : tCons (tE1 (ga K q.x) q.f (tVar 0)) (tCons (tE1 (ga K q.x) q.f (tVar 1)) rest) σ H Q := by
  obtain ⟨one, two, h0, h1, k⟩ := h
  exact args_read h0 h1 k
/-- two rows more -/
theorem two_rows {K : PySem.W.Frag} {qs : List R1} {q1 q2 : R1} {i j i2 j2 : Nat} {D : Ends} {σ : L2.St} {H : Hp} {one two : V} {l : Addr} {ts : List Addr} {a b a2 b2 : Addr} (hz : qs.length ≤ 100) (hl : σ[6]? = some (some (.ref l)))
    (h0 : σ[i]? = some (some (.ref a))) (h1 : σ[j]? = some (some (.ref b))) (h2 : σ[i2]? = some (some (.ref a2))) (h3 : σ[j2]? = some (some (.ref b2)))
    (r1 : E2 K H a b q1 one two) (r2 : E2 K H a2 b2 q2 one two) (c1 : Reads1 K q1) (c2 : Reads1 K q2) (L : LstOf (rW K one two) H l ts qs)
    (k : ∀ l ts H', Same H H' → LstOf (rW K one two) H' l ts (qs ++ [q1, q2]) → D.nx (σ.set 6 (some (.ref l))) H') :
    tAsg (tOp rCat (tVar 6) (tLst (tCons (tRow K q1 i j) (tCons (tRow K q2 i2 j2) tNil)))) (gName 6) D σ H := by
  refine ⟨_, hl, a, b, one, two, h0, h1, r1, c1, fun t1 H1 s1 w1 => ⟨a2, b2, one, two, h2, h3, r2.same s1, c2, fun t2 H2 s2 w2 => ⟨(by show 2 ≤ sizeLine; decide), fun m nm => ?_⟩⟩⟩
  have s3 := same_new (o := .lst [.ref t1, .ref t2]) nm
  have L2 := L.sameR (s1.trans (s2.trans s3))
  refine ⟨l, m, _, _, rfl, rfl, L2.at_, upd_same, ?_, fun l3 n3 => ?_⟩
  · rw [List.length_map, L2.each.length, sizeLine_eq]
    show qs.length + 2 ≤ _
    omega
  · have s4 := same_new (o := .lst (ts.map V.ref ++ [.ref t1, .ref t2])) n3
    refine k l3 (ts ++ [t1, t2]) _ (s1.trans (s2.trans (s3.trans s4))) ⟨?_, Paired.app (L2.sameR s4).each (.cons (RowAt.same w1 (s2.trans (s3.trans s4))) (.cons (RowAt.same w2 (s3.trans s4)) .nil))⟩
    rw [List.map_append]
    exact upd_same
/-- one row more, handed back -/
theorem one_row {K : PySem.W.Frag} {qs : List R1} {q1 : R1} {i j : Nat} {D : Ends} {σ : L2.St} {H : Hp} {one two : V} {l : Addr} {ts : List Addr} {a b : Addr} (hz : qs.length ≤ 100) (hl : σ[6]? = some (some (.ref l)))
    (h0 : σ[i]? = some (some (.ref a))) (h1 : σ[j]? = some (some (.ref b))) (r1 : E2 K H a b q1 one two) (c1 : Reads1 K q1) (L : LstOf (rW K one two) H l ts qs)
    (k : ∀ l ts H', Same H H' → LstOf (rW K one two) H' l ts (qs ++ [q1]) → D.rt (.ref l) H') :
    tRet (tOp rCat (tVar 6) (tLst (tCons (tRow K q1 i j) tNil))) D σ H := by
  refine ⟨_, hl, a, b, one, two, h0, h1, r1, c1, fun t1 H1 s1 w1 => ⟨(by show 1 ≤ sizeLine; decide), fun m nm => ?_⟩⟩
  have s3 := same_new (o := .lst [.ref t1]) nm
  have L2 := L.sameR (s1.trans s3)
  refine ⟨l, m, _, _, rfl, rfl, L2.at_, upd_same, ?_, fun l3 n3 => ?_⟩
  · rw [List.length_map, L2.each.length, sizeLine_eq]
    show qs.length + 1 ≤ _
    omega
  · have s4 := same_new (o := .lst (ts.map V.ref ++ [.ref t1])) n3
    refine k l3 (ts ++ [t1]) _ (s1.trans (s3.trans s4)) ⟨?_, Paired.app (L2.sameR s4).each (.cons (RowAt.same w1 (s3.trans s4)) .nil)⟩
    rw [List.map_append]
    exact upd_same
theorem pe_row {X : Cx} {q : R1} {i j : Nat} {e1 e2 e3 e4 : Expr} {p1 p2 pos : Pos} {kk : Nat} (h1 : PE X e1 (tVar i)) (h2 : PE X e2 (tVar i)) (h3 : PE X e3 (tVar j)) (h4 : PE X e4 (tVar j))
    (b2 : attributeBase e2 q.f X.env (eval e2 X.env) = eval e2 X.env := by rfl) (b4 : attributeBase e4 q.f X.env (eval e4 X.env) = eval e4 X.env := by rfl)
    (s1 : starEach [e1, .Attribute e2 q.f p1, e3, .Attribute e4 q.f p2] X.env = (false, eval e1 X.env) :: starEach [.Attribute e2 q.f p1, e3, .Attribute e4 q.f p2] X.env := by rfl)
    (s2 : starEach [.Attribute e2 q.f p1, e3, .Attribute e4 q.f p2] X.env = (false, eval (.Attribute e2 q.f p1) X.env) :: starEach [e3, .Attribute e4 q.f p2] X.env := by rfl)
    (s3 : starEach [e3, .Attribute e4 q.f p2] X.env = (false, eval e3 X.env) :: starEach [.Attribute e4 q.f p2] X.env := by rfl)
    (s4 : starEach [.Attribute e4 q.f p2] X.env = (false, eval (.Attribute e4 q.f p2) X.env) :: starEach [] X.env := by rfl) :
    PE X (.Tuple [e1, .Attribute e2 q.f p1, e3, .Attribute e4 q.f p2] kk pos) (tRow X.K q i j) :=
  PE.imp (pe_tup (pa_cons h1 (pa_cons (pe_ef h2 b2) (pa_cons h3 (pa_cons (pe_ef h4 b4) pa_nil (hs := s4)) (hs := s3)) (hs := s2)) (hs := s1))) fun _ _ _ h => row_imp h
theorem pa_two {X : Cx} {q : R1} {e1 e2 : Expr} {es : List Expr} {rest : TA} {p1 p2 p3 p4 kpos : Pos} (T : Cl1 X.prog X.w X.K X.mg X.base q.x q.f q.bs) (hr : Room 2 X.A) (hc : Passes CX0 X E0) (hg : Gl X q.x)
    (hdb : (q.x == ("__debug__" : Str)) = false) (he : PE X e1 (tVar 0)) (he2 : PE X e2 (tVar 1)) (hes : PA X es rest)
    (h1 : starEach [e1] X.env = (false, eval e1 X.env) :: starEach [] X.env := by rfl) (h2 : (backTo p2 (starEach [] X.env)).any (·.1) = false := by rfl)
    (h3 : (backToKw p4 (keywordEach [⟨some q.f, e2, kpos⟩] X.env)).all (·.1.isSome) = true := by rfl)
    (h4 : (backToKw p4 (keywordEach [⟨some q.f, e2, kpos⟩] X.env)).filterMap (·.1) = [q.f] := by rfl)
    (h5 : ((backTo p4 (starEach [] X.env)).any (·.1) || (backToKw p4 (keywordEach [⟨some q.f, e2, kpos⟩] X.env)).any (·.1.isNone)) = false := by rfl)
    (h6 : starEach (.Call (.Name q.x p1) [e1] [] p2 :: .Call (.Name q.x p3) [] [⟨some q.f, e2, kpos⟩] p4 :: es) X.env = (false, eval (.Call (.Name q.x p1) [e1] [] p2) X.env) :: starEach (.Call (.Name q.x p3) [] [⟨some q.f, e2, kpos⟩] p4 :: es) X.env := by rfl)
    (h7 : starEach (.Call (.Name q.x p3) [] [⟨some q.f, e2, kpos⟩] p4 :: es) X.env = (false, eval (.Call (.Name q.x p3) [] [⟨some q.f, e2, kpos⟩] p4) X.env) :: starEach es X.env := by rfl) :
    PA X (.Call (.Name q.x p1) [e1] [] p2 :: .Call (.Name q.x p3) [] [⟨some q.f, e2, kpos⟩] p4 :: es) (tTwo X.K q rest) :=
  PA.imp (pa_cons (pe_e1 T hr hc hg he hdb h1 h2) (pa_cons (pe_e1K T hr hc hg he2 h3 h4 hdb h5) hes (hs := h7)) (hs := h6)) fun _ _ _ h => two_imp h
section
variable {P : Program} {w : World} {K : PySem.W.Frag} {mg : Str → Option Value} {base : Heap} {f : Addr} {fd : FuncData}
theorem rd1 (T : KF P w K mg base) {q : R1} (k : Nat) (h : tab[k]? = some q) : Reads1 K q := ⟨(T.c1 q (mt k h)).e.xf, (T.c1 q (mt k h)).no⟩
abbrev scNamed_N : List Str := ["_law_one", "_law_two", "_law_day", "_law_later", "_law_line", "_law_next_line", "_law_found", "_law_fix", "_law_more", "_law_ring", "_law_round_so", "_law_release", "_law_last", "_law_word", "_law_next_word", "_law_barred", "_law_again"]
theorem scNamed : FnScope scNamed_N ["_law_one", "_law_two"] (defScope sNamed) := ⟨rfl, rfl, rfl, by decide +kernel, rfl, by decide +kernel, by decide +kernel⟩
theorem ok_named (F : FnP K "_law_named" sNamed f fd) (T : KF P w K mg base) : FnOk P w K mg base CX0 3 f fd ["_law_one", "_law_two"] (spRows K name) := by
  refine F.ok scNamed (fun vs H Q E h => ?_) (fun cdv A outer s H vs Q E hr h => ?_)
  · obtain ⟨one, two, rfl, _⟩ := h
    rfl
  · obtain ⟨one, two, rfl, k⟩ := h
    refine ⟨_, PSs.nox (pss_cons (ps_asg (pe_tup (pa_two (q := ⟨"NoDay", "day", 23, true⟩) (T.c1 _ (mt 19 rfl)) hr pass0 (by rfl) (by rfl) (pv 0) (pv 1) (pa_two (q := ⟨"NoLine", "line", 25, true⟩) (T.c1 _ (mt 20 rfl)) hr pass0 (by rfl) (by rfl) (pv 0) (pv 1) pa_nil))) (pg_tup rfl (pgs_cons (pg_name (i := 2) scNamed.nd rfl (.inl rfl)) (pgs_cons (pg_name (i := 3) scNamed.nd rfl (.inl rfl)) (pgs_cons (pg_name (i := 4) scNamed.nd rfl (.inl rfl)) (pgs_cons (pg_name (i := 5) scNamed.nd rfl (.inl rfl)) pgs_nil))))))
      (pss_cons (ps_set (i := 6) scNamed.nd rfl (.inl rfl) (pe_lst (pa_cons (pe_row (q := ⟨"NoDay", "day", 23, true⟩) (pv 2) (pv 2) (pv 3) (pv 3)) (pa_cons (pe_row (q := ⟨"NoLine", "line", 25, true⟩) (pv 4) (pv 4) (pv 5) (pv 5)) pa_nil))))
      (pss_cons (ps_asg (pe_tup (pa_two (q := ⟨"NoFix", "fix", 24, true⟩) (T.c1 _ (mt 21 rfl)) hr pass0 (by rfl) (by rfl) (pv 0) (pv 1) (pa_two (q := ⟨"Ring", "fix", 27, true⟩) (T.c1 _ (mt 22 rfl)) hr pass0 (by rfl) (by rfl) (pv 0) (pv 1) pa_nil))) (pg_tup rfl (pgs_cons (pg_name (i := 7) scNamed.nd rfl (.inl rfl)) (pgs_cons (pg_name (i := 8) scNamed.nd rfl (.inl rfl)) (pgs_cons (pg_name (i := 9) scNamed.nd rfl (.inl rfl)) (pgs_cons (pg_name (i := 10) scNamed.nd rfl (.inl rfl)) pgs_nil))))))
      (pss_cons (ps_set (i := 6) scNamed.nd rfl (.inl rfl) (pe_op op_cat (pv 6) (pe_lst (pa_cons (pe_row (q := ⟨"NoFix", "fix", 24, true⟩) (pv 7) (pv 7) (pv 8) (pv 8)) (pa_cons (pe_row (q := ⟨"Ring", "fix", 27, true⟩) (pv 9) (pv 9) (pv 10) (pv 10)) pa_nil)))))
      (pss_cons (ps_asg (pe_tup (pa_two (q := ⟨"NoRelease", "number", 26, true⟩) (T.c1 _ (mt 23 rfl)) hr pass0 (by rfl) (by rfl) (pv 0) (pv 1) (pa_two (q := ⟨"BadLine", "word", 10, true⟩) (T.c1 _ (mt 24 rfl)) hr pass0 (by rfl) (by rfl) (pv 0) (pv 1) pa_nil))) (pg_tup rfl (pgs_cons (pg_name (i := 11) scNamed.nd rfl (.inl rfl)) (pgs_cons (pg_name (i := 12) scNamed.nd rfl (.inl rfl)) (pgs_cons (pg_name (i := 13) scNamed.nd rfl (.inl rfl)) (pgs_cons (pg_name (i := 14) scNamed.nd rfl (.inl rfl)) pgs_nil))))))
      (pss_cons (ps_set (i := 6) scNamed.nd rfl (.inl rfl) (pe_op op_cat (pv 6) (pe_lst (pa_cons (pe_row (q := ⟨"NoRelease", "number", 26, true⟩) (pv 11) (pv 11) (pv 12) (pv 12)) (pa_cons (pe_row (q := ⟨"BadLine", "word", 10, true⟩) (pv 13) (pv 13) (pv 14) (pv 14)) pa_nil)))))
      (pss_cons (ps_par (i := 15) (j := 16) rfl scNamed.nd rfl rfl (by decide) rfl rfl (pa_two (q := ⟨"Barred", "clause", 28, false⟩) (T.c1 _ (mt 25 rfl)) hr pass0 (by rfl) (by rfl) (pv 0) (pv 1) pa_nil) rfl)
      (pss_one (ps_ret (pe_op op_cat (pv 6) (pe_lst (pa_cons (pe_row (q := ⟨"Barred", "clause", 28, false⟩) (pv 15) (pv 15) (pv 16) (pv 16)) pa_nil)))))))))))), ?_⟩
    refine ⟨one, two, by simp [L2.start], by simp [L2.start], fun a1 b1 H1 s1 r1 => ⟨one, two, by simp [L2.start], by simp [L2.start], fun a2 b2 H2 s2 r2 => ⟨(by show 4 ≤ sizeLine; decide), fun t nt => ⟨t, _, rfl, SqT.of upd_same, rfl, _, _, rfl, _, _, rfl, _, _, rfl, _, _, rfl, rfl, ?_⟩⟩⟩⟩
    have u1 := same_new (o := .tup [.ref a1, .ref b1, .ref a2, .ref b2]) nt
    refine ⟨a1, b1, one, two, rfl, rfl, r1.same (s2.trans u1), rd1 T 19 rfl, fun t1 H3 s3 w1 => ⟨a2, b2, one, two, rfl, rfl, r2.same (u1.trans s3), rd1 T 20 rfl, fun t2 H4 s4 w2 => ⟨(by show 2 ≤ sizeLine; decide), fun l nl => ?_⟩⟩⟩
    have u2 := same_new (o := .lst [.ref t1, .ref t2]) nl
    have S := s1.trans (s2.trans (u1.trans (s3.trans (s4.trans u2))))
    have L : LstOf (rW K one two) _ l [t1, t2] (name.take 2) := ⟨upd_same, .cons (RowAt.same w1 (s4.trans u2)) (.cons (RowAt.same w2 u2) .nil)⟩
    clear w1 w2 r1 r2 s1 s2 u1 s3 s4 u2
    refine ⟨one, two, by simp [L2.start], by simp [L2.start], fun a1 b1 H1 s1 r1 => ⟨one, two, by simp [L2.start], by simp [L2.start], fun a2 b2 H2 s2 r2 => ⟨(by show 4 ≤ sizeLine; decide), fun t nt => ⟨t, _, rfl, SqT.of upd_same, rfl, _, _, rfl, _, _, rfl, _, _, rfl, _, _, rfl, rfl, ?_⟩⟩⟩⟩
    have u1 := same_new (o := .tup [.ref a1, .ref b1, .ref a2, .ref b2]) nt
    refine two_rows (qs := name.take 2) (by decide) (by simp [L2.start]) (by simp [L2.start]) (by simp [L2.start]) (by simp [L2.start]) (by simp [L2.start]) (r1.same (s2.trans u1)) (r2.same u1) (rd1 T 21 rfl) (rd1 T 22 rfl) (L.sameR (s1.trans (s2.trans u1))) fun l ts H3 s3 L => ?_
    have S := S.trans (s1.trans (s2.trans (u1.trans s3)))
    clear r1 r2 s1 s2 u1 s3
    refine ⟨one, two, by simp [L2.start], by simp [L2.start], fun a1 b1 H1 s1 r1 => ⟨one, two, by simp [L2.start], by simp [L2.start], fun a2 b2 H2 s2 r2 => ⟨(by show 4 ≤ sizeLine; decide), fun t nt => ⟨t, _, rfl, SqT.of upd_same, rfl, _, _, rfl, _, _, rfl, _, _, rfl, _, _, rfl, rfl, ?_⟩⟩⟩⟩
    have u1 := same_new (o := .tup [.ref a1, .ref b1, .ref a2, .ref b2]) nt
    refine two_rows (qs := name.take 4) (by decide) (by simp [L2.start]) (by simp [L2.start]) (by simp [L2.start]) (by simp [L2.start]) (by simp [L2.start]) (r1.same (s2.trans u1)) (r2.same u1) (rd1 T 23 rfl) (rd1 T 24 rfl) (L.sameR (s1.trans (s2.trans u1))) fun l ts H3 s3 L => ?_
    have S := S.trans (s1.trans (s2.trans (u1.trans s3)))
    clear r1 r2 s1 s2 u1 s3
    refine ⟨one, two, by simp [L2.start], by simp [L2.start], fun a1 b1 H1 s1 r1 => ⟨_, _, rfl, ?_⟩⟩
    exact one_row (qs := name.take 6) (by decide) (by simp [L2.start]) (by simp [L2.start]) (by simp [L2.start]) r1 (rd1 T 25 rfl) (L.sameR s1) fun l ts H2 s2 L => k l ts H2 (S.trans (s1.trans s2)) L
end
end K1

/-! K1Kinds -/
set_option Elab.async false
set_option linter.all false
set_option maxRecDepth 100000
set_option maxHeartbeats 1000000
namespace K1
open PySem PySem.Spec PyProof.Rows L2 RV EV He EF EI
abbrev sKinds : Stmt := top 41
abbrev NB : Type := Str × List Str
theorem nodup_inj {α β : Type} {f : α → β} : ∀ {l : List α}, (l.map f).Nodup → ∀ {a b : α}, a ∈ l → b ∈ l → f a = f b → a = b
  | [], _, _, _, h, _, _ => nomatch h
  | x :: l, n, a, b, ha, hb, e => by
    rw [List.map_cons, List.nodup_cons] at n
    rcases List.mem_cons.mp ha with h1 | h1
    · rcases List.mem_cons.mp hb with h2 | h2
      · rw [h1, h2]
      · exact absurd (by rw [← h1, e]; exact List.mem_map_of_mem h2) n.1
    · rcases List.mem_cons.mp hb with h2 | h2
      · exact absurd (by rw [← h2, ← e]; exact List.mem_map_of_mem h1) n.1
      · exact nodup_inj n.2 h1 h2 e
/-- every class above one is one of them -/
theorem above_in : ∀ q ∈ nams, ∀ b ∈ q.2, ∃ c ∈ nams, c.1 = b := by decide
def isOf (q r : NB) : Bool := decide (r.1 = q.1 ∨ r.1 ∈ q.2)
section
variable {P : Program} {w : World} {K : PySem.W.Frag} {mg : Str → Option Value} {base : Heap} {f : Addr} {fd : FuncData}
theorem nm_eq (T : KF P w K mg base) {q r : NB} (hq : q ∈ nams) (hr : r ∈ nams) : ga K r.1 = ga K q.1 ↔ r.1 = q.1 :=
  ⟨fun e => by rw [nodup_inj T.nd hr hq e], fun e => by rw [e]⟩
theorem kitN (T : KF P w K mg base) {q r : NB} (hq : q ∈ nams) (hr : r ∈ nams) : PySem.W.kitOne K (.ref (ga K q.1)) (.ref (ga K r.1)) = some (isOf q r) := by
  rw [kit (T.ek q hq) (T.ek r hr)]
  unfold isOf
  congr 1
  refine decide_eq_decide.mpr ⟨fun h => ?_, fun h => ?_⟩
  · rcases h with h | h
    · exact .inl ((nm_eq T hq hr).mp h)
    · obtain ⟨b, hb, e⟩ := List.mem_map.mp h
      obtain ⟨c, hc, rfl⟩ := above_in q hq b hb
      exact .inr (by rw [(nm_eq T hc hr).mp e.symm]; exact hb)
  · rcases h with h | h
    · exact .inl ((nm_eq T hq hr).mpr h)
    · exact .inr (List.mem_map_of_mem h)
/-- isinstance(e, x), e an error in slot i -/
def tIsi (K : PySem.W.Frag) (i : Nat) (r : NB) : TE := fun σ H Q => ∃ a q, σ[i]? = some (some (.ref a)) ∧ q ∈ nams ∧ IsErr H a (ga K q.1) ∧ Q (.bl (isOf q r)) H
theorem pe_isi {X : Cx} {r : NB} {i : Nat} {e : Expr} {p p2 pos : Pos} (T : KF X.prog X.w X.K X.mg X.base) (hr : r ∈ nams) (hg : Gl X "isinstance") (hx : Gl X r.1) (hdb : (r.1 == ("__debug__" : Str)) = false) (he : PE X e (tVar i))
    (h1 : starEach [e, .Name r.1 p2] X.env = (false, eval e X.env) :: starEach [.Name r.1 p2] X.env := by rfl) (h2 : starEach [.Name r.1 p2] X.env = (false, eval (.Name r.1 p2) X.env) :: starEach [] X.env := by rfl)
    (hpl : (backTo pos (starEach [.Name r.1 p2] X.env)).any (·.1) = false := by rfl) : PE X (.Call (.Name "isinstance" p) [e, .Name r.1 p2] [] pos) (tIsi X.K i r) :=
  PE.imp (pe_callB call_isErr hg (T.fr "isinstance" (by decide)) PyProof.Rows.boot_isinstance (pa_cons he (pa_cons (pe_glob (v := .ref (ga X.K r.1)) hx (T.gl r hr) rfl hdb) pa_nil (hs := h2)) (hs := h1)) (he := h1) (hpl := hpl)) fun σ H Q h => by
    obtain ⟨a, q, h0, hq, hi, k⟩ := h
    exact ⟨_, h0, a, ga X.K q.1, _, _, _, rfl, hi, (T.ek q hq).ex, .own _, kitN T hq hr, k⟩
def isis (K : PySem.W.Frag) : List NB → TA
  | [] => tNil
  | r :: t => tCons (tIsi K 0 r) (isis K t)
theorem isis_read {σ : L2.St} {a : Addr} {q : NB} {H : Hp} (h0 : σ[0]? = some (some (.ref a))) (hq : q ∈ nams) (hi : IsErr H a (ga K q.1)) : ∀ (rs : List NB) {Q : List V → Hp → Prop},
    Q (rs.map fun r => .bl (isOf q r)) H → isis K rs σ H Q
  | [], Q, k => k
  | r :: t, Q, k => ⟨a, q, h0, hq, hi, isis_read h0 hq hi t k⟩
theorem isi_first {σ : L2.St} {a : Addr} {q : NB} {H : Hp} {D : Ends} (h0 : σ[0]? = some (some (.ref a))) (hq : q ∈ nams) (hi : IsErr H a (ga K q.1)) (rs : List NB) (hz : rs.length ≤ 100)
    (k : ∀ l H', Same H H' → H' l = some (.lst (rs.map fun r => .bl (isOf q r))) → D.nx (σ.set 1 (some (.ref l))) H') : tAsg (tLst (isis K rs)) (gName 1) D σ H := by
  refine isis_read h0 hq hi rs ⟨?_, fun l n => k l _ (same_new n) upd_same⟩
  rw [List.length_map, sizeLine_eq]
  omega
theorem isi_more {σ : L2.St} {a l : Addr} {q : NB} {H : Hp} {D : Ends} {qs : List NB} (h0 : σ[0]? = some (some (.ref a))) (h1 : σ[1]? = some (some (.ref l))) (hq : q ∈ nams) (hi : IsErr H a (ga K q.1)) (rs : List NB) (hz : rs.length ≤ 100) (hz2 : qs.length ≤ 100)
    (L : H l = some (.lst (qs.map fun r => .bl (isOf q r))))
    (k : ∀ l H', Same H H' → H' l = some (.lst ((qs ++ rs).map fun r => .bl (isOf q r))) → D.nx (σ.set 1 (some (.ref l))) H') : tAsg (tOp rCat (tVar 1) (tLst (isis K rs))) (gName 1) D σ H := by
  refine ⟨_, h1, isis_read h0 hq hi rs ⟨?_, fun m n => ?_⟩⟩
  · rw [List.length_map, sizeLine_eq]
    omega
  · have s1 := same_new (o := .lst (rs.map fun r => .bl (isOf q r))) n
    refine ⟨l, m, _, _, rfl, rfl, s1 _ _ L, upd_same, ?_, fun p np => ?_⟩
    · rw [List.length_map, List.length_map, sizeLine_eq]
      omega
    · have s2 := same_new (o := .lst ((qs.map fun r => V.bl (isOf q r)) ++ rs.map fun r => .bl (isOf q r))) np
      refine k p _ (s1.trans s2) ?_
      rw [List.map_append]
      exact upd_same
def knr : List NB := [("BadBook", bI), ("BadClause", bI), ("BadDeed", bI), ("BadFact", bI), ("BadFix", bI), ("BadHistory", bI), ("BadLine", bI), ("BadLiteral", bI), ("BadLot", bI), ("BadNeeds", bI), ("BadNumber", bI), ("BadPlace", bI), ("BadPrice", bI), ("BadProject", bI), ("BadStanding", bI), ("BadWay", bI), ("BadWeb", bI), ("BadWish", bI), ("NoDay", bI), ("NoFix", bI), ("NoLine", bI), ("NoRelease", bI), ("Ring", bI), ("Barred", bN), ("Undone", bN), ("Unlike", bN), ("BadText", bI), ("TooMany", bN), ("Nothing", bN)]
def flags (q : NB) : List Bool := knr.map (isOf q)
def kindsOf (q : NB) : List Int := ((List.range 29).filter fun n => (flags q).getD n false).map fun (n : Nat) => (n : Int)
def cnt (q : NB) (i : Nat) : List Int := ((List.range i).filter fun n => (flags q).getD n false).map fun (n : Nat) => (n : Int)
theorem if_pos' {A B : Prop} (h : A) : if true = true then A else B := by rw [if_pos rfl]; exact h
theorem if_neg' {A B : Prop} (h : B) : if false = true then A else B := by rw [if_neg Bool.false_ne_true]; exact h
theorem at_bl {bs : List Bool} {i : Nat} {b : Bool} (h : bs[i]? = some b) : atI (bs.map V.bl) (0 + (i : Int)) = some (V.bl b) := by
  rw [Int.zero_add]
  refine atI_nat ?_
  rw [List.getElem?_map, h]
  rfl
theorem cnt_yes {q : NB} {i : Nat} (h : (flags q).getD i false = true) : cnt q (i + 1) = cnt q i ++ [(i : Int)] := by
  unfold cnt
  rw [List.range_succ, List.filter_append, List.map_append, List.filter_cons, if_pos h]
  rfl
theorem cnt_no {q : NB} {i : Nat} (h : (flags q).getD i false = false) : cnt q (i + 1) = cnt q i := by
  unfold cnt
  rw [List.range_succ, List.filter_append, List.map_append, List.filter_cons, if_neg (by rw [h]; exact Bool.false_ne_true)]
  exact List.append_nil _
/-- if kinds[number] -/
def tK (K : PySem.W.Frag) : TT := fun σ H Q => tOp (rIxL K) (tVar 1) (tVar 2) σ H fun x H' => ∃ k, TruV K x H' k ∧ Q k H'
theorem same_none {H H' : Hp} {D : Addr} (s : Same H H') (n : H' D = none) : H D = none := by
  cases e : H D with
  | none => rfl
  | some o =>
    rw [s _ _ e] at n
    cases n
def spKinds (K : PySem.W.Frag) : Sp := fun vs H Q _ => ∃ a q, vs = [.ref a] ∧ q ∈ nams ∧ IsErr H a (ga K q.1) ∧ ∀ l H', H l = none → Same H H' → H' l = some (.lst ((kindsOf q).map V.int)) → Q (.ref l) H'
abbrev scKinds_N : List Str := ["_law_error", "_law_kinds_here", "_law_number"]
theorem scKinds : FnScope scKinds_N ["_law_error"] (defScope sKinds) := ⟨rfl, rfl, rfl, by decide +kernel, rfl, by decide +kernel, by decide +kernel⟩
theorem ok_kinds (F : FnP K "_law_kinds" sKinds f fd) (T : KF P w K mg base) : FnOk P w K mg base CX0 1 f fd ["_law_error"] (spKinds K) := by
  refine F.ok scKinds (fun vs H Q E h => ?_) (fun cdv A outer s H vs Q E hr h => ?_)
  · obtain ⟨a, q, rfl, _⟩ := h
    rfl
  · obtain ⟨a, q, rfl, hq, hi, k⟩ := h
    refine ⟨_, PSs.nox (pss_cons (ps_set (i := 1) scKinds.nd rfl (.inr rfl) (pe_lst (pa_cons (pe_isi (r := ("BadBook", bI)) T (by decide) (by rfl) (by rfl) (by rfl) (pv 0)) (pa_cons (pe_isi (r := ("BadClause", bI)) T (by decide) (by rfl) (by rfl) (by rfl) (pv 0)) (pa_cons (pe_isi (r := ("BadDeed", bI)) T (by decide) (by rfl) (by rfl) (by rfl) (pv 0)) pa_nil)))))
      (pss_cons (ps_set (i := 1) scKinds.nd rfl (.inr rfl) (pe_op op_cat (pv 1) (pe_lst (pa_cons (pe_isi (r := ("BadFact", bI)) T (by decide) (by rfl) (by rfl) (by rfl) (pv 0)) (pa_cons (pe_isi (r := ("BadFix", bI)) T (by decide) (by rfl) (by rfl) (by rfl) (pv 0)) (pa_cons (pe_isi (r := ("BadHistory", bI)) T (by decide) (by rfl) (by rfl) (by rfl) (pv 0)) pa_nil))))))
      (pss_cons (ps_set (i := 1) scKinds.nd rfl (.inr rfl) (pe_op op_cat (pv 1) (pe_lst (pa_cons (pe_isi (r := ("BadLine", bI)) T (by decide) (by rfl) (by rfl) (by rfl) (pv 0)) (pa_cons (pe_isi (r := ("BadLiteral", bI)) T (by decide) (by rfl) (by rfl) (by rfl) (pv 0)) (pa_cons (pe_isi (r := ("BadLot", bI)) T (by decide) (by rfl) (by rfl) (by rfl) (pv 0)) pa_nil))))))
      (pss_cons (ps_set (i := 1) scKinds.nd rfl (.inr rfl) (pe_op op_cat (pv 1) (pe_lst (pa_cons (pe_isi (r := ("BadNeeds", bI)) T (by decide) (by rfl) (by rfl) (by rfl) (pv 0)) (pa_cons (pe_isi (r := ("BadNumber", bI)) T (by decide) (by rfl) (by rfl) (by rfl) (pv 0)) (pa_cons (pe_isi (r := ("BadPlace", bI)) T (by decide) (by rfl) (by rfl) (by rfl) (pv 0)) pa_nil))))))
      (pss_cons (ps_set (i := 1) scKinds.nd rfl (.inr rfl) (pe_op op_cat (pv 1) (pe_lst (pa_cons (pe_isi (r := ("BadPrice", bI)) T (by decide) (by rfl) (by rfl) (by rfl) (pv 0)) (pa_cons (pe_isi (r := ("BadProject", bI)) T (by decide) (by rfl) (by rfl) (by rfl) (pv 0)) (pa_cons (pe_isi (r := ("BadStanding", bI)) T (by decide) (by rfl) (by rfl) (by rfl) (pv 0)) pa_nil))))))
      (pss_cons (ps_set (i := 1) scKinds.nd rfl (.inr rfl) (pe_op op_cat (pv 1) (pe_lst (pa_cons (pe_isi (r := ("BadWay", bI)) T (by decide) (by rfl) (by rfl) (by rfl) (pv 0)) (pa_cons (pe_isi (r := ("BadWeb", bI)) T (by decide) (by rfl) (by rfl) (by rfl) (pv 0)) (pa_cons (pe_isi (r := ("BadWish", bI)) T (by decide) (by rfl) (by rfl) (by rfl) (pv 0)) pa_nil))))))
      (pss_cons (ps_set (i := 1) scKinds.nd rfl (.inr rfl) (pe_op op_cat (pv 1) (pe_lst (pa_cons (pe_isi (r := ("NoDay", bI)) T (by decide) (by rfl) (by rfl) (by rfl) (pv 0)) (pa_cons (pe_isi (r := ("NoFix", bI)) T (by decide) (by rfl) (by rfl) (by rfl) (pv 0)) (pa_cons (pe_isi (r := ("NoLine", bI)) T (by decide) (by rfl) (by rfl) (by rfl) (pv 0)) pa_nil))))))
      (pss_cons (ps_set (i := 1) scKinds.nd rfl (.inr rfl) (pe_op op_cat (pv 1) (pe_lst (pa_cons (pe_isi (r := ("NoRelease", bI)) T (by decide) (by rfl) (by rfl) (by rfl) (pv 0)) (pa_cons (pe_isi (r := ("Ring", bI)) T (by decide) (by rfl) (by rfl) (by rfl) (pv 0)) (pa_cons (pe_isi (r := ("Barred", bN)) T (by decide) (by rfl) (by rfl) (by rfl) (pv 0)) pa_nil))))))
      (pss_cons (ps_set (i := 1) scKinds.nd rfl (.inr rfl) (pe_op op_cat (pv 1) (pe_lst (pa_cons (pe_isi (r := ("Undone", bN)) T (by decide) (by rfl) (by rfl) (by rfl) (pv 0)) (pa_cons (pe_isi (r := ("Unlike", bN)) T (by decide) (by rfl) (by rfl) (by rfl) (pv 0)) pa_nil)))))
      (pss_cons (ps_set (i := 1) scKinds.nd rfl (.inr rfl) (pe_op op_cat (pv 1) (pe_lst (pa_cons (pe_isi (r := ("BadText", bI)) T (by decide) (by rfl) (by rfl) (by rfl) (pv 0)) (pa_cons (pe_isi (r := ("TooMany", bN)) T (by decide) (by rfl) (by rfl) (by rfl) (pv 0)) (pa_cons (pe_isi (r := ("Nothing", bN)) T (by decide) (by rfl) (by rfl) (by rfl) (pv 0)) pa_nil))))))
      (pss_one (ps_ret (pe_lc (own := [("_law_number", 2)]) (g := gName 2) (tt := tK K) (te := tVar 2) rfl scKinds.nd
        (pi_range1 (by rfl) (T.fr "range" (by decide)) (pa_cons (pe_callB call_len_seq (by rfl) T.b.len PySem.boot_len (pa_cons (pv 1) pa_nil)) pa_nil)) (blkOk_by (N := scKinds_N) (sc := defScope sKinds) (by decide +kernel))
        (fun _ _ _ _ _ => pg_name (i := 2) scKinds.nd rfl (.inl rfl)) (fun _ _ _ _ _ => pts_one (pt_truth (pe_ix ix_list (pv 1) (pv 2) (fun _ _ => rfl)) (fun _ => rfl))) (fun _ _ _ _ _ => pv 2)))))))))))))), ?_⟩
    refine isi_first (by simp [L2.start]) hq hi [("BadBook", bI), ("BadClause", bI), ("BadDeed", bI)] (by decide) fun l H1 s1 L => ?_
    refine isi_more (by simp [L2.start]) (by simp [L2.start]) hq (hi.same s1) [("BadFact", bI), ("BadFix", bI), ("BadHistory", bI)] (by decide) (by decide) L fun l H2 s2 L => ?_
    have s1 := s1.trans s2
    clear s2
    refine isi_more (by simp [L2.start]) (by simp [L2.start]) hq (hi.same s1) [("BadLine", bI), ("BadLiteral", bI), ("BadLot", bI)] (by decide) (by decide) L fun l H2 s2 L => ?_
    have s1 := s1.trans s2
    clear s2
    refine isi_more (by simp [L2.start]) (by simp [L2.start]) hq (hi.same s1) [("BadNeeds", bI), ("BadNumber", bI), ("BadPlace", bI)] (by decide) (by decide) L fun l H2 s2 L => ?_
    have s1 := s1.trans s2
    clear s2
    refine isi_more (by simp [L2.start]) (by simp [L2.start]) hq (hi.same s1) [("BadPrice", bI), ("BadProject", bI), ("BadStanding", bI)] (by decide) (by decide) L fun l H2 s2 L => ?_
    have s1 := s1.trans s2
    clear s2
    refine isi_more (by simp [L2.start]) (by simp [L2.start]) hq (hi.same s1) [("BadWay", bI), ("BadWeb", bI), ("BadWish", bI)] (by decide) (by decide) L fun l H2 s2 L => ?_
    have s1 := s1.trans s2
    clear s2
    refine isi_more (by simp [L2.start]) (by simp [L2.start]) hq (hi.same s1) [("NoDay", bI), ("NoFix", bI), ("NoLine", bI)] (by decide) (by decide) L fun l H2 s2 L => ?_
    have s1 := s1.trans s2
    clear s2
    refine isi_more (by simp [L2.start]) (by simp [L2.start]) hq (hi.same s1) [("NoRelease", bI), ("Ring", bI), ("Barred", bN)] (by decide) (by decide) L fun l H2 s2 L => ?_
    have s1 := s1.trans s2
    clear s2
    refine isi_more (by simp [L2.start]) (by simp [L2.start]) hq (hi.same s1) [("Undone", bN), ("Unlike", bN)] (by decide) (by decide) L fun l H2 s2 L => ?_
    have s1 := s1.trans s2
    clear s2
    refine isi_more (by simp [L2.start]) (by simp [L2.start]) hq (hi.same s1) [("BadText", bI), ("TooMany", bN), ("Nothing", bN)] (by decide) (by decide) L fun l H2 s2 L => ?_
    have s1 := s1.trans s2
    clear s2
    have L' : _ = some (HO.lst ((flags q).map V.bl)) := L
    have fl : (flags q).length = 29 := rfl
    refine ⟨_, by simp [L2.start], l, _, rfl, .inl (SqL.of L'), _, rfl, (by rw [List.length_map, fl]; decide), (by rw [List.length_map, fl]; decide), fun D nD => ?_⟩
    have en : (((flags q).map V.bl).length : Int).toNat = 29 := by rw [List.length_map, fl]; rfl
    refine lc_range (g := gName 2) (tt := tK K) (te := tVar 2) (vs := [2]) (lo := 0) (n := (((flags q).map V.bl).length : Int).toNat) (fun i H' => Same _ H' ∧ H' D = some (.lst ((cnt q i).map V.int))) ⟨same_new nD, upd_same⟩ ?_ ?_
    · rintro i H3 hi3 ⟨s3, hD⟩
      rw [en] at hi3
      have hb : (flags q)[i]? = some ((flags q).getD i false) := by
        rw [List.getD_eq_getElem?_getD, List.getElem?_eq_getElem (by rw [fl]; exact hi3)]
        rfl
      refine ⟨by simp [wipe, L2.start], _, by simp [wipe, L2.start], _, by simp [wipe, L2.start], l, _, _, _, rfl, rfl, SqL.of (s3 _ _ L'), at_bl hb, _, rfl, ?_⟩
      have hz : (cnt q i).length ≤ 29 := by
        unfold cnt
        rw [List.length_map]
        refine Nat.le_trans (List.length_filter_le _ _) ?_
        rw [List.length_range]
        omega
      cases e : (flags q).getD i false with
      | true =>
        refine if_pos' ?_
        refine ⟨.int (0 + (i : Int)), by simp [wipe, L2.start], _, hD, ?_, ?_, ?_⟩
        · rw [List.length_map, sizeLine_eq]
          omega
        · exact fun c o hc => by
            rw [upd_ne (ne_of_none hc nD)]
            exact s3 _ _ hc
        · rw [cnt_yes e, List.map_append, upd_same, Int.zero_add]
          rfl
      | false =>
        refine if_neg' ?_
        exact ⟨s3, by rw [cnt_no e]; exact hD⟩
    · rintro H3 ⟨s3, hD⟩
      rw [en] at hD
      exact k D H3 (same_none s1 nD) (s1.trans s3) hD
end
end K1

/-! K1Alone -/
set_option Elab.async false
set_option linter.all false
set_option maxRecDepth 100000
set_option maxHeartbeats 1000000
namespace K1
open PySem PySem.Spec PyProof.Rows L2 RV EV He EF EI
abbrev sAlone : Stmt := top 42
theorem errs_ok : ∀ q ∈ knr, q ∈ nams ∧ (kindsOf q).length = 1 ∧ isOf q ("EditionError", []) = true ∧ isOf q ("BadInput", ["EditionError"]) = !isOf q ("NoAnswer", ["EditionError"]) := by decide +kernel
theorem meta_VE : PySem.W.kitMeta "ValueError" = true := by decide +kernel
theorem meta_LE : PySem.W.kitMeta "LookupError" = true := by decide +kernel
theorem boot_VE : bootBuiltins "ValueError" = some (.type "ValueError") := by decide +kernel
theorem boot_LE : bootBuiltins "LookupError" = some (.type "LookupError") := by decide +kernel
theorem if_not {b : Bool} {A B : Prop} (hb : b = true) (h : B) : if (!b) = true then A else B := by
  rw [hb]
  exact iteF h
theorem if_ne {x y : V} {A B : Prop} (hb : x ≠ y) (h : A) : if (!decide (x = y)) = true then A else B := by
  rw [decide_eq_false hb]
  exact iteT h
def spAlone (K : PySem.W.Frag) : Sp := fun vs H Q _ => ∃ a q, vs = [.ref a] ∧ q ∈ knr ∧ IsErr H a (ga K q.1) ∧ ∀ H', Same H H' → Q (.bl true) H'
/-- isinstance(e, T), T a built-in class -/
def tIsT (K : PySem.W.Frag) (i : Nat) (b : Bool) : TE := fun σ H Q => ∃ a q, σ[i]? = some (some (.ref a)) ∧ q ∈ nams ∧ IsErr H a (ga K q.1) ∧ Q (.bl b) H
theorem pe_isT {X : Cx} {i : Nat} {t : String} {x : Str} {b : Bool} {e : Expr} {p p2 pos : Pos} (T : KF X.prog X.w X.K X.mg X.base) (hm : PySem.W.kitMeta t = true) (hb : veT.contains (.type t) = b) (hv : bootBuiltins x = some (.type t)) (hx : x ∈ frees) (hg : Gl X "isinstance") (hgx : Gl X x)
    (hn : x ≠ "__name__") (hdb : (x == ("__debug__" : Str)) = false) (he : PE X e (tVar i))
    (h1 : starEach [e, .Name x p2] X.env = (false, eval e X.env) :: starEach [.Name x p2] X.env := by rfl) (h2 : starEach [.Name x p2] X.env = (false, eval (.Name x p2) X.env) :: starEach [] X.env := by rfl)
    (hpl : (backTo pos (starEach [.Name x p2] X.env)).any (·.1) = false := by rfl) : PE X (.Call (.Name "isinstance" p) [e, .Name x p2] [] pos) (tIsT X.K i b) :=
  PE.imp (pe_callB call_isErr hg (T.fr "isinstance" (by decide)) PyProof.Rows.boot_isinstance (pa_cons he (pa_cons (pe_bltn (v := .ty t) hgx (T.fr x hx) hv rfl hn hdb) pa_nil (hs := h2)) (hs := h1)) (he := h1) (hpl := hpl)) fun σ H Q h => by
    obtain ⟨a, q, h0, hq, hi, k⟩ := h
    exact ⟨_, h0, a, ga X.K q.1, _, _, _, rfl, hi, (T.ek q hq).ex, .ty _, by rw [kitT (T.ek q hq) hm, hb], k⟩
section
variable {P : Program} {w : World} {K : PySem.W.Frag} {mg : Str → Option Value} {base : Heap} {f fK : Addr} {fd fdK : FuncData}
abbrev scAlone_N : List Str := ["_law_error", "_law_kinds_here", "_law_is_input"]
theorem scAlone : FnScope scAlone_N ["_law_error"] (defScope sAlone) := ⟨rfl, rfl, rfl, by decide +kernel, rfl, by decide +kernel, by decide +kernel⟩
theorem ok_alone (F : FnP K "_law_is_alone" sAlone f fd) (T : KF P w K mg base) (FK : FnP K "_law_kinds" sKinds fK fdK) (gK : mg "_law_kinds" = some (.ref fK)) : FnOk P w K mg base CX0 2 f fd ["_law_error"] (spAlone K) := by
  have GK : FnOk P w K mg base CX0 1 fK fdK ["_law_error"] (spKinds K) := ok_kinds FK T
  have bK : L2.Binds K fdK ["_law_error"] [] := FK.bindsN fun _ _ _ _ _ _ us hl => match us, hl with | [_], _ => rfl
  refine F.ok scAlone (fun vs H Q E h => ?_) (fun cdv A outer s H vs Q E hr h => ?_)
  · obtain ⟨a, q, rfl, _⟩ := h
    rfl
  · obtain ⟨a, q, rfl, hq, hi, k⟩ := h
    obtain ⟨hn, h1, h2, h3⟩ := errs_ok q hq
    refine ⟨_, PSs.nox (pss_cons (ps_set (i := 1) scAlone.nd rfl (.inl rfl) (pe_call GK hr (by rfl) gK FK.kp bK .nil pass0 (pa_cons (pv 0) pa_nil)))
      (pss_cons (ps_if (PW.pt (pw_or (pt_cmpR op_ne (pe_callB call_len_seq (by rfl) T.b.len PySem.boot_len (pa_cons (pv 1) pa_nil)) pe_int (nomark _))
          (pw_or (pt_not (pt_val (pe_isi (r := ("EditionError", [])) T (by decide) (by rfl) (by rfl) (by rfl) (pv 0))))
            (pw_or1 (pt_not (pt_val (pe_isT T meta_VE (b := true) rfl boot_VE (by decide) (by rfl) (by rfl) (by decide) (by rfl) (pv 0))))))))
        (pss_one (ps_ret pe_bl)) pss_nil)
      (pss_cons (ps_set (i := 2) scAlone.nd rfl (.inl rfl) (pe_isi (r := ("BadInput", ["EditionError"])) T (by decide) (by rfl) (by rfl) (by rfl) (pv 0)))
      (pss_one (ps_ret (pe_and (pe_cmpR op_ne (pv 2) (pe_isi (r := ("NoAnswer", ["EditionError"])) T (by decide) (by rfl) (by rfl) (by rfl) (pv 0)) (nomark _))
        (pe_one (pe_not (pe_isT T meta_LE (b := false) rfl boot_LE (by decide) (by rfl) (by rfl) (by decide) (by rfl) (pv 0)))))))))), ?_⟩
    refine ⟨_, rfl, a, q, rfl, hn, hi, fun l H1 _ s1 L => ?_⟩
    refine ⟨_, rfl, l, _, rfl, .inl (SqL.of L), rfl, _, rfl, ?_⟩
    refine iteNS (by rw [List.length_map, h1]; rfl) ?_
    refine ⟨a, q, rfl, hn, hi.same s1, _, rfl, if_not h2 ?_⟩
    refine ⟨a, q, rfl, hn, hi.same s1, _, rfl, if_not rfl ?_⟩
    refine ⟨a, q, rfl, hn, hi.same s1, ?_⟩
    refine ⟨_, rfl, a, q, rfl, hn, hi.same s1, rfl, _, rfl, if_ne ?_ ?_⟩
    · rw [h3]
      cases isOf q ("NoAnswer", ["EditionError"]) <;> (intro z; cases z)
    · exact ⟨a, q, rfl, hn, hi.same s1, _, rfl, k H1 s1⟩
end
end K1

/-! Guard -/
set_option Elab.async false
set_option linter.all false
set_option maxRecDepth 100000
set_option maxHeartbeats 2000000
/-! A def that is only called where no repr is under way. -/
namespace Gd
open PySem PySem.Spec PyProof.Rows L2
structure FnG (P : Program) (w : World) (K : PySem.W.Frag) (mg : Str → Option Value) (base : Heap) (C : CXT) (k : Nat) (f : Addr) (fd : FuncData) (ps : List Str) (sp : Sp) : Prop where
  len : ∀ vs H Q E, sp vs H Q E → vs.length = ps.length
  go : ∀ (B : Around) (out : List Env) (t : Shared) (H : Hp) (as : Args) (us : List Value) (vs : List V) (Q : VK) (E : XK), B.guards = some [] → Room k B → Env0 P w K mg base B out t H →
    BindsTo t fd as (ps.zip us) → Vals vs us → sp vs H Q E → codeAny (model P w) B (.call (.ref f) as) (CR C out P w H t Q E) t
section
variable {CX : CXT} {P : Program} {w : World} {K : PySem.W.Frag} {mg : Str → Option Value} {base : Heap} {x qual : Str} {pm0 : Arguments} {body : List Stmt} {scope : Scope} {dvs : List V} {kws : List (Str × V)} {f : Addr} {fd : FuncData} {N ps : List Str} {k : Nat} {sp : Sp}
theorem ofD (D : FunD K x qual pm0 body scope dvs kws f fd) (S : FnScope N ps scope) (len : ∀ vs H Q E, sp vs H Q E → vs.length = ps.length)
    (hbody : ∀ (cdv : Value) (B : Around) (out : List Env) (t : Shared) (H : Hp) (vs : List V) (Q : VK) (E : XK), B.guards = some [] → Room k (B.deeper (envOfC qual scope t.heap.objs.size f cdv)) → sp vs H Q E →
      ∃ r, PSs (cxOf CX P w K mg base N qual scope f cdv B out t H E) body r ∧ r { nx := fun _ H' => Q .non H', rt := Q } (start N vs) H) : FnG P w K mg base CX (k + 1) f fd ps sp := by
  obtain ⟨oc, od, dV, kV, doc, pm, an, cdv, ct, osl, rfl, lk, hcd, _, _⟩ := D.ex
  refine ⟨len, fun B out t H as us vs Q E hG hR e0 hb r hsp => ?_⟩
  have KX : K.In t.heap := e0.mod.kin.keeps fun b o e => (e0.bs b o e).1
  have lim : t.heap.NoLimit := e0.mod.nolimit.keeps fun b o e => (e0.bs b o e).1
  have hkd : ∀ q ∈ ps.zip us, scope.names.lookup q.1 = some .local ∨ (scope.names.lookup q.1 = some .cell ∧ ((cellsFrom (t.heap.objs.size + 1) scope.names []).lookup q.1).isSome = true) := fun ⟨n, v⟩ hq => by
    rcases S.par n (List.of_mem_zip hq).1 with i | i
    · exact .inl i
    · exact .inr ⟨i, PySem.W.cellsFrom_some _ _ _ (.inl i)⟩
  refine codeAny_call_function hR.depth (KX _ _ lk) rfl S.co S.gen rfl (PySem.W.codeRec_of KX hcd) (hb _ _ _ _ ?_)
  refine wpAny_newFunctionEnv_cells S.kind hkd fun ev he t1 X => ?_
  subst he
  refine ⟨lim.keeps X.toInCall.keep, codeAny_func ?_⟩
  obtain ⟨r0, h0, hq⟩ := hbody cdv B out t H vs Q E hG (hR.deeper _) hsp
  refine wpAny_mono (h0.run [] t1 (start N vs) H _ (inv_start S hR.hd e0 (len _ _ _ _ hsp) r X) hq) (fun fl t2 hs => ?_) fun e t2 hs => hs
  cases fl with
  | ret u => exact let ⟨v, _, H', J, rv, q⟩ := hs; ⟨v, H', J.os, J.bare, J.base, J.hok, rv, q⟩
  | next => exact let ⟨_, H', J, q⟩ := hs; ⟨V.non, H', J.os, J.bare, J.base, J.hok, (rfl : Value.none = Value.none), q⟩
  | brk => exact let ⟨_, _, _, q⟩ := hs; False.elim q
  | cont => exact let ⟨_, _, _, q⟩ := hs; False.elim q
end
section
variable {X : Cx} {CX : CXT} {k : Nat} {f : Addr} {fd : FuncData} {ps : List Str} {sp : Sp} {E : XK} {x : Str} {p pos : Pos} {e : Expr} {es : List Expr} {t : TA}
theorem pe_callG (F : FnG X.prog X.w X.K X.mg X.base CX k f fd ps sp) (hR : Room k X.A) (hG : X.A.guards = some []) (hg : Gl X x) (hm : X.mg x = some (.ref f)) (hk : PySem.W.keepIn X.K (.ref f) = true) (hb : Binds X.K fd ps []) (hx : Passes CX X E)
    (ha : PA X (e :: es) t) (hdb : (x == ("__debug__" : Str)) = false := by decide) (he : starEach (e :: es) X.env = (false, eval e X.env) :: starEach es X.env := by rfl) (hpl : (backTo pos (starEach es X.env)).any (·.1) = false := by rfl) :
    PE X (.Call (.Name x p) (e :: es) [] pos) (tCall sp [] E t) := by
  refine ⟨fun pins s σ H Q I h => wpAny_Call_Name_kw (ld_glob I hg hm ?_ hdb)⟩
  refine PySem.W.callWith_K (h₀ := X.base) I.ok.mod.kin hk (thn (ha.run pos pins s σ H _ I h) fun us s1 ⟨vs, H1, I1, r, q⟩ => ⟨I1.kIn, ?_⟩) he hpl
  have r2 : Vals (vs ++ []) (us ++ []) := r.append .nil
  have hl : (us ++ []).length = ps.length := by rw [← r2.length]; exact F.len _ _ _ _ q
  refine wpAny_call (codeAny_mono (F.go X.A X.stack s1 H1 ⟨us, []⟩ (us ++ []) (vs ++ []) Q E hG hR I1.env0 (hb s1 us I1.kIn hl) r2 q) fun z s' hz => ?_)
  match z, hz with
  | .error e, hz => exact hx pins σ H1 s1 e s' I1 hz
  | .ok (.ret u), hz => exact I1.after hz
end
/-- the head's end -/
theorem law_callG {P : Program} {w : World} {K : PySem.W.Frag} {mg mb : Str → Option Value} {k : Nat} {f a : Addr} {fd : FuncData} {x : Str} {sp : Sp} {t : Shared} {us : List Value} {ns : List Int}
    (KX : K.In t.heap) (gM : t.heap.Ns mainGlobals mg) (gB : t.heap.Ns builtinsNs mb) (gb : ∀ x : Str, x ≠ "__name__" → mb x = bootBuiltins x) (lim : t.heap.NoLimit) (hg : t.gens = #[])
    (ha : t.heap.get? a = some { cls := .type "list", data := .seq us.toArray }) (hi : IntsAre us ns) (hl : ns.length ≤ sizeLine) (hR : Room k callerA)
    (F : ∀ base : Heap, K.In base → base.Ns mainGlobals mg → FnG P w K mg base CX0 k f fd [x] sp) (hbind : ∀ (s : Shared) (u : Value), BindsTo s fd ⟨[u], []⟩ [(x, u)])
    (hsp : ∀ H : Hp, Only H → SqL K H a (ns.map V.int) → sp [.ref a] H (fun v _ => v = .bl true) fun _ _ _ => False)
    (hX : ∀ H e s', CX0 [] H t (fun _ _ _ => False) e s' → False) :
    codeAny (model P w) callerA (.call (.ref f) ⟨[.ref a], []⟩) (fun r s' => r = .ok (.ret (.bool true)) ∧ OldK t.heap s'.heap ∧ s'.os = t.os ∧ AllBare s'.gens) t := by
  suffices main : ∃ H : Hp, Only H ∧ SqL K H a (ns.map V.int) ∧ HOk P w H t.heap ∧ (∀ b, H b ≠ none → b = a) ∧ (H a ≠ none → K.lookup a = none) by
    obtain ⟨H, hO, hS, hok, hA, hK⟩ := main
    have hid : ∀ {b : Addr} {o : Obj}, t.heap.get? b = some o → H b = none → (hidT t.heap H).get? b = some o := fun i n => hidT_get i n
    have hns : ∀ {b : Addr} {m : Str → Option Value}, t.heap.Ns b m → (hidT t.heap H).Ns b m := fun {b m} ⟨o, es, ep, i, d, r⟩ => ⟨o, es, ep, hid i (by
      by_cases q : H b = none
      · exact q
      · cases hA b q
        rw [ha] at i
        cases i
        exact nomatch (show Data.seq us.toArray _ = Data.dict es ep from d)), d, r⟩
    have KH : K.In (hidT t.heap H) := fun b o i => hid (KX b o i) (by
      by_cases q : H b = none
      · exact q
      · cases hA b q
        rw [hK q] at i
        cases i)
    have e0 : Env0 P w K mg (hidT t.heap H) callerA [] t H :=
      ⟨rfl, ⟨KH, hns gM, ⟨mb, hns gB, gb⟩, let ⟨m, i, j⟩ := lim; ⟨m, hns i, j⟩⟩, fun b o i => of_hidT i, Nat.le_of_eq (hidT_size _ _), trivial, fun b i => absurd (show b ∈ ([] : List Addr) from i) (by simp), hok, .of_eq hg⟩
    refine codeAny_mono ((F _ KH (hns gM)).go callerA [] t H ⟨[.ref a], []⟩ [.ref a] [.ref a] _ _ rfl hR e0 (hbind t (.ref a)) (.cons rfl .nil) (hsp H hO hS)) fun r s' h => ?_
    match r, h with
    | .error e, h => exact (hX H e s' h).elim
    | .ok (.ret u), h =>
      obtain ⟨v, H', os, bare, un, hok', r', q⟩ := h
      cases (show v = V.bl true from q)
      cases (show u = Value.bool true from r')
      refine ⟨rfl, OldK.of_keep fun b o i => ?_, os, bare⟩
      rcases hO b with q | ⟨ob, xs, q⟩
      · exact un.keep b o i q (by intro z; exact absurd (show b ∈ ([] : List Addr) from z) (by simp)) (by simp)
      · obtain ⟨i1, _⟩ := hok b _ q
        obtain ⟨i2, _⟩ := hok' b _ (un.frzs b ob _ q)
        rw [i] at i1
        cases i1
        exact i2
  by_cases hk : K.lookup a = none
  · refine ⟨fun b => if b = a then some (.frz { cls := .type "list", data := .seq us.toArray } (.lst (ns.map V.int))) else none, fun b => ?_, .inl (.inr ⟨{ cls := .type "list", data := .seq us.toArray }, if_pos rfl⟩), fun b u i => ?_, fun b i => ?_, fun _ => hk⟩
    · by_cases hb : b = a
      · exact .inr ⟨_, _, if_pos hb⟩
      · exact .inl (if_neg hb)
    · by_cases hb : b = a
      · cases (if_pos hb).symm.trans i
        subst hb
        exact ⟨ha, by rw [List.length_map]; exact hl, us, _, vals_ints hi, ha⟩
      · cases (if_neg hb).symm.trans i
    · by_cases hb : b = a
      · exact hb
      · exact absurd (if_neg hb) i
  · obtain ⟨o, ho⟩ : ∃ o, K.lookup a = some o := by
      cases e : K.lookup a with
      | none => exact absurd e hk
      | some o => exact ⟨o, rfl⟩
    have i := KX a o ho
    rw [ha] at i
    cases i
    exact ⟨fun _ => none, fun _ => .inl rfl, .inr ⟨_, us.toArray, _, ho, rfl, rfl, rfl, by rw [List.size_toArray, hi.length]; exact hl, by simpa using vals_ints hi⟩, fun b u z => (nomatch (show (none : Option HO) = some u from z)), fun b z => absurd rfl z, fun z => absurd rfl z⟩
theorem walkG {l : PySem.W.OpenLaw} {n k : Nat} {q : Program} {loose : List Str} {XP : (Str → Option Value) → Heap → Prop} {YP : World → Heap → Prop} {d : DefRec} {x : Str}
    (hn : l.most = some n) (hn2 : n ≤ sizeLine) (hdf : d.params.defaults = []) (hR : Room k callerA)
    (F : ∀ (w : World) (mg : Str → Option Value) (fa : Addr) (h : Heap), YP w h → h.Ns mainGlobals mg → mg d.name = some (.ref fa) →
      ∃ (K : PySem.W.Frag) (fd : FuncData) (sp : Sp), K.In h ∧ (∀ (s : Shared) (u : Value), BindsTo s fd ⟨[u], []⟩ [(x, u)]) ∧
        (∀ (H : Hp) (a : Addr) (ns : List Int), ns.length ≤ n → Only H → SqL K H a (ns.map V.int) → sp [.ref a] H (fun v _ => v = .bl true) fun _ _ _ => False) ∧
        ∀ base : Heap, K.In base → base.Ns mainGlobals mg → FnG l.prog w K mg base CX0 k fa fd [x] sp)
    (hX : ∀ (H : Hp) (s : Shared) (e : Value) (s' : Shared), CX0 [] H s (fun _ _ _ => False) e s' → False) :
    PySem.W.WalkO q loose XP YP l.row.toRowW d [] (fun f vs => PySem.call f vs) := by
  refine Att.attach_call hn hdf fun w s₀ s₁ mg mb fa o pm cd doc a vs ns G Y ho hd hcd hmg hobj hints hlen hg => ?_
  obtain ⟨K, fd, sp, KX, hb, hsp, hF⟩ := F w mg fa _ Y G.T.g hmg
  exact law_callG KX G.T.g G.T.b G.T.builtins G.T.nolimit hg hobj hints (Nat.le_trans hlen hn2) hR hF hb (fun H hO hS => hsp H a ns hlen hO hS) fun H e s' => hX H s₁ e s'
end Gd

/-! RepLen -/
set_option Elab.async false
set_option linter.all false
set_option maxRecDepth 100000
set_option maxHeartbeats 1000000
/-! A bound of the length of a repr that the kernel reckons. -/
namespace RV
open PySem PySem.Spec PyProof.Rows L2
mutual
def up : PyData → Nat
  | .none => 4
  | .bool _ => 5
  | .int i => (PyData.shown (.int i)).length
  | .str x => if x.cps.toList.all (fun c => decide (c < 16 ^ 8)) = true then 10 * x.length + 2 else (PyData.shown (.str x)).length
  | .list xs => upAll xs + 3
  | .tuple xs => upAll xs + 3
  | .dict kvs => upKv kvs + 3
def upAll : List PyData → Nat
  | [] => 0
  | x :: xs => up x + 2 + upAll xs
def upKv : List (PyData × PyData) → Nat
  | [] => 0
  | (k, v) :: r => up k + up v + 4 + upKv r
end
theorem listText_up (ts : List Str) : (listText ts).length ≤ piled ts + 2 := by
  cases ts with
  | nil => exact Nat.le_of_eq (by rw [listText_nil]; rfl)
  | cons t r =>
    have h := textFrom_length_pos r 1 (("[" : Str) ++ (if (0 : Nat) > 0 then ", " else "" : String) ++ t) (Nat.succ_pos 0)
    have e : ((("[" : Str) ++ (if (0 : Nat) > 0 then ", " else "" : String) ++ t)).length = 1 + t.length := by
      rw [strLen_append, strLen_append]
      rfl
    have z : (listText (t :: r)).length = (textFrom 1 (("[" : Str) ++ (if (0 : Nat) > 0 then ", " else "" : String) ++ t) r).length + 1 := by
      show (textFrom 1 _ r ++ ("]" : Str)).length = _
      rw [strLen_append]
      rfl
    rw [z, h, e, piled_cons]
    omega
theorem join_up (ts : List Str) : (Str.join ", " ts).length ≤ piled ts := by
  cases ts with
  | nil => exact Nat.le_of_eq rfl
  | cons t r =>
    have := join_length_add (t :: r) (by simp)
    omega
theorem tupleText_up (ts : List Str) : (tupleText ts).length ≤ piled ts + 3 := by
  have h := join_up ts
  unfold tupleText
  rw [strLen_append, strLen_append]
  have e : (("(" : Str)).length = 1 := rfl
  have e2 : ((if ts.length == 1 then ",)" else ")" : String) : Str).length ≤ 2 := by
    split
    · exact Nat.le_of_eq rfl
    · exact Nat.le_trans (Nat.le_of_eq rfl) (by decide : 1 ≤ 2)
  omega
theorem dictText_up (ts : List Str) : (dictText ts).length ≤ piled ts + 2 := by
  have h := join_up ts
  unfold dictText
  rw [strLen_append, strLen_append]
  have e : (("{" : Str)).length = 1 := rfl
  have e2 : (("}" : Str)).length = 1 := rfl
  omega
mutual
theorem up_ok : ∀ d : PyData, d.shown.length ≤ up d
  | .none => Nat.le_of_eq rfl
  | .bool b => by cases b <;> (simp only [PyData.shown, up]; decide)
  | .int i => by
    simp only [up]
    exact Nat.le_refl _
  | .str x => by
    simp only [up]
    split
    · rename_i h
      simp only [PyData.shown]
      exact StrLaws.reprText_len x fun c hc => of_decide_eq_true (List.all_eq_true.mp h c hc)
    · exact Nat.le_refl _
  | .list xs => by
    simp only [up, PyData.shown]
    have := listText_up (PyData.shownAll xs)
    have := upAll_ok xs
    omega
  | .tuple xs => by
    simp only [up, PyData.shown]
    have := tupleText_up (PyData.shownAll xs)
    have := upAll_ok xs
    omega
  | .dict kvs => by
    simp only [up, PyData.shown]
    have := dictText_up (PyData.shownKv kvs)
    have := upKv_ok kvs
    omega
theorem upAll_ok : ∀ xs : List PyData, piled (PyData.shownAll xs) ≤ upAll xs
  | [] => by
    simp only [upAll, PyData.shownAll, piled_nil]
    exact Nat.le_refl _
  | x :: xs => by
    simp only [upAll, PyData.shownAll, piled_cons]
    have := up_ok x
    have := upAll_ok xs
    omega
theorem upKv_ok : ∀ kvs : List (PyData × PyData), piled (PyData.shownKv kvs) ≤ upKv kvs
  | [] => by
    simp only [upKv, PyData.shownKv, piled_nil]
    exact Nat.le_refl _
  | (k, v) :: r => by
    simp only [upKv, PyData.shownKv, piled_cons]
    have h1 := up_ok k
    have h2 := up_ok v
    have h3 := upKv_ok r
    rw [strLen_append, strLen_append]
    have e : ((": " : String) : Str).length = 2 := rfl
    omega
end
end RV

/-! K1Bits -/
set_option Elab.async false
set_option linter.all false
set_option maxRecDepth 100000
set_option maxHeartbeats 1000000
namespace K1
open PySem PySem.Spec PyProof.Rows L2 RV EV He EF EI
/-- list + list; the new one is not the table of modules -/
def rCat1 : R2 := fun x y H Q => ∃ l b xs zs, x = .ref l ∧ y = .ref b ∧ H l = some (.lst xs) ∧ H b = some (.lst zs) ∧ xs.length + zs.length ≤ sizeLine ∧
  ∀ p, H p = none → p ≠ sysModules → Q (.ref p) (upd H p (.lst (xs ++ zs)))
theorem op_cat1 {X : Cx} : OpR X (binaryOp .Add) rCat1 := by
  intro pins s σ H x y v u Q I rx ry h
  obtain ⟨l, b, xs, zs, rfl, rfl, h1, h2, hz, q⟩ := h
  cases rx
  cases ry
  obtain ⟨i1, its, n, r1, l1, e1⟩ := I.lstM h1
  obtain ⟨i2, its', n', r2, l2, e2⟩ := I.lstM h2
  refine PySem.P.add_list e1 e2 ?_ (by rw [List.size_toArray, List.size_toArray]; omega)
  have ea : its.toArray ++ its'.toArray = (its ++ its').toArray := by simp
  rw [ea]
  exact ⟨.ref _, _, I.lnew (t' := s.toks) (r1.append r2) (by rw [List.length_append]; omega), rfl, q _ I.fresh (Nat.ne_of_gt I.big)⟩
/-- an own exception class without own __init__, called with nothing -/
def tExc0 (C : Addr) : TE := fun σ H Q => ∀ a, H a = none → Q (.ref a) (upd H a (ExO (.ref C) a))
theorem pe_exc0 {X : Cx} {C : Addr} {bmB : List Value} {B newId initId : String} {x : Str} {p pos : Pos} (F : ExcBaseFacts B newId initId bmB) (q : PySem.W.excIn X.K C bmB newId = true) (gC : X.mg x = some (.ref C)) (kC : PySem.W.keepIn X.K (.ref C) = true) (hg : Gl X x)
    (hdb : (x == ("__debug__" : Str)) = false := by decide) : PE X (.Call (.Name x p) [] [] pos) (tExc0 C) := by
  refine ⟨fun pins s σ H Q I h => wpAny_Call_Name_kw (ld_glob I hg gC ?_ hdb)⟩
  refine PySem.W.callWith_K0 I.kIn kC ?_
  show wpAny _ _ (call (.ref C) []) _ _ _
  obtain ⟨bm, N, nm, qn, bs, hdct, sn, sub, ab, col, dd, k0, k1, k2, k3, k5, mN, hC, hN, hni, T⟩ := exc_obj I.kIn q
  refine wpAny_call_exc_subT F T hC hN hni (fun h' a hm => ?_) (Nat.zero_le _)
  have hn : H a = none := I.hok.gone hm.new
  obtain ⟨t, ht, _, _⟩ := hm.there
  exact ⟨.ref a, upd H a (ExO (.ref C) a), I.laidN hm.keeps hm.new hn (exO_ok ht ⟨rfl, rfl⟩ rfl rfl rfl (show 4 < 6 by decide)), rfl, h a hn⟩
theorem is_read {P : Program} {w : World} {K : PySem.W.Frag} {mg : Str → Option Value} {base : Heap} {H : Hp} {Q : VK} {a : Addr} {q r : NB} (T : KF P w K mg base) (hq : q ∈ nams) (hr : r ∈ nams) (hi : IsErr H a (ga K q.1)) (k : Q (.bl (isOf q r)) H) :
    rIsErr K [.ref a, .ref (ga K r.1)] H Q := ⟨a, ga K q.1, _, _, _, rfl, hi, (T.ek q hq).ex, .own _, kitN T hq hr, k⟩
/-- isinstance(e, x) -/
def tIsG (K : PySem.W.Frag) (te : TE) (r : NB) : TE := fun σ H Q => te σ H fun v H1 => rIsErr K [v, .ref (ga K r.1)] H1 Q
theorem pe_isG {X : Cx} {r : NB} {te : TE} {e : Expr} {p p2 pos : Pos} (T : KF X.prog X.w X.K X.mg X.base) (hr : r ∈ nams) (hg : Gl X "isinstance") (hx : Gl X r.1) (hdb : (r.1 == ("__debug__" : Str)) = false) (he : PE X e te)
    (h1 : starEach [e, .Name r.1 p2] X.env = (false, eval e X.env) :: starEach [.Name r.1 p2] X.env := by rfl) (h2 : starEach [.Name r.1 p2] X.env = (false, eval (.Name r.1 p2) X.env) :: starEach [] X.env := by rfl)
    (hpl : (backTo pos (starEach [.Name r.1 p2] X.env)).any (·.1) = false := by rfl) : PE X (.Call (.Name "isinstance" p) [e, .Name r.1 p2] [] pos) (tIsG X.K te r) :=
  pe_callB call_isErr hg (T.fr "isinstance" (by decide)) PyProof.Rows.boot_isinstance (pa_cons he (pa_cons (pe_glob (v := .ref (ga X.K r.1)) hx (T.gl r hr) rfl hdb) pa_nil (hs := h2)) (hs := h1)) (he := h1) (hpl := hpl)
/-- the datum of a row of rows -/
def datOk (d : PyData) : Bool := d.showable && decide (d.depth ≤ 20) && decide (up d ≤ sizeLine)
theorem rep_read {H : Hp} {Q : VK} {a : Addr} {d : PyData} (D : Dat H (.ref a) d) (h : datOk d = true) (k : Q (.str d.shown) H) : rRepr [.ref a] H Q := by
  obtain ⟨h, h3⟩ := ba h
  obtain ⟨h1, h2⟩ := ba h
  exact ⟨a, d, rfl, D, h1, of_decide_eq_true h2, Nat.le_trans (up_ok d) (of_decide_eq_true h3), k⟩
theorem told_ok : ∀ d1 ∈ dats, ∀ d2 ∈ dats, datOk (.list [.list [d1, d2], .list [d1, d2], .list [d1, d2], .list [d1, d2]]) = true := by decide +kernel
theorem pair_ok : ∀ d1 ∈ dats, ∀ d2 ∈ dats, datOk (.list [d1, d2]) = true := by decide +kernel
end K1

/-! K1Two -/
set_option Elab.async false
set_option linter.all false
set_option maxRecDepth 100000
set_option maxHeartbeats 1000000
namespace K1
open PySem PySem.Spec PyProof.Rows L2 RV EV He EF EI Gd
abbrev sTwo : Stmt := top 43
def Two2 (K : PySem.W.Frag) (H : Hp) (x f g : Str) (a : Addr) (one two : V) : Prop := ∃ d, ErrAt H a (ga K x) d [(g, two), (f, one)]
theorem Two2.same {K : PySem.W.Frag} {H H' : Hp} {x f g : Str} {a : Addr} {one two : V} (r : Two2 K H x f g a one two) (k : Same H H') : Two2 K H' x f g a one two :=
  let ⟨d, h⟩ := r; ⟨d, h.same k⟩
theorem Two2.isE {K : PySem.W.Frag} {H : Hp} {x f g : Str} {a : Addr} {one two : V} (r : Two2 K H x f g a one two) : IsErr H a (ga K x) := let ⟨d, h⟩ := r; .inl ⟨d, _, h⟩
def tE2 (C : Addr) (f g : Str) (i j : Nat) : TE := fun σ H Q => tVar i σ H fun v H1 => tVar j σ H1 fun u H2 => wE2 C f g Q [v, u] H2
def tE2K (C : Addr) (f g : Str) (i j : Nat) : TE := fun σ H Q => tVar j σ H fun u H1 => tVar i σ H1 fun v H2 => wE2 C f g Q [v, u] H2
theorem two_made {K : PySem.W.Frag} {x f g : Str} {σ : L2.St} {H : Hp} {D : Ends} {one two : V} {j : Nat} (h0 : σ[0]? = some (some one)) (h1 : σ[1]? = some (some two))
    (k : ∀ l a b H', Same H H' → H' l = some (.lst [.ref a, .ref b]) → Two2 K H' x f g a one two → Two2 K H' x f g b one two → D.nx (σ.set j (some (.ref l))) H') :
    tAsg (tLst (tCons (tE2 (ga K x) f g 0 1) (tCons (tE2K (ga K x) f g 0 1) tNil))) (gName j) D σ H := by
  refine ⟨one, h0, two, h1, fun a d na nd ne => ⟨two, h1, one, h0, fun b e nb nee ne2 => ⟨(by show 2 ≤ sizeLine; decide), fun l nl => ?_⟩⟩⟩
  have s1 := mkE_same (C := ga K x) (fs := [(g, two), (f, one)]) na nd
  have s2 := mkE_same (C := ga K x) (fs := [(g, two), (f, one)]) nb nee
  have s3 := same_new (o := .lst [.ref a, .ref b]) nl
  exact k l a b _ (s1.trans (s2.trans s3)) upd_same ⟨d, ((mkE_at ne).same s2).same s3⟩ ⟨e, (mkE_at ne2).same s3⟩
/-- [e.f, e.g] -/
def teL (K : PySem.W.Frag) (i : Nat) (f g : Str) : TE := fun σ H Q => tCons (tEf K (tVar i) f) (tCons (tEf K (tVar i) g) tNil) σ H fun xs H1 => xs.length ≤ sizeLine ∧ ∀ p, H1 p = none → p ≠ sysModules → Q (.ref p) (upd H1 p (.lst xs))
theorem two_read {K : PySem.W.Frag} {x f g : Str} {σ : L2.St} {H : Hp} {Q : VK} {s i : Nat} {l a b : Addr} {one two : V} (xf : XfC K (ga K x)) (nf : PySem.W.findIn K (.ref (ga K x)) f = some none) (ng : PySem.W.findIn K (.ref (ga K x)) g = some none) (hfg : (f == g) = false)
    (hw : ∀ v, wipe ((wipe σ [i]).set i v) [i] = wipe σ [i]) (hi : ∀ v, ((wipe σ [i]).set i (some v))[i]? = some (some v)) (hs : σ[s]? = some (some (.ref l))) (L : H l = some (.lst [.ref a, .ref b])) (ra : Two2 K H x f g a one two) (rb : Two2 K H x f g b one two)
    (k : ∀ r p1 p2 H', Same H H' → H' r = some (.lst [.ref p1, .ref p2]) → (H' p1 = some (.lst [one, two]) ∧ p1 ≠ sysModules) → (H' p2 = some (.lst [one, two]) ∧ p2 ≠ sysModules) → Q (.ref r) H') :
    tLc (iList K (tVar s)) (gName i) tYes (teL K i f g) [i] σ H Q := by
  refine ⟨_, hs, l, rfl, ⟨_, SqL.of L⟩, fun D nD => lc_list (K := K) (a := l) (xs := [.ref a, .ref b])
    (fun n H' => ∃ rs : List Addr, Same H H' ∧ H' D = some (.lst (rs.map V.ref)) ∧ rs.length = n ∧ ∀ p ∈ rs, H' p = some (.lst [one, two]) ∧ p ≠ sysModules ∧ p ≠ D) ⟨[], same_new nD, upd_same, rfl, fun p hp => nomatch hp⟩
    (fun n H' _ ⟨_, s1, _⟩ => s1.seq (SqL.of L)) ?_ ?_⟩
  · rintro n v H1 hx ⟨rs, s1, hD, hn, hr⟩
    obtain ⟨e, hv, d, he⟩ : ∃ e, v = .ref e ∧ Two2 K H1 x f g e one two := by
      rcases List.mem_cons.mp (List.mem_of_getElem? hx) with h | h
      · exact ⟨a, h, ra.same s1⟩
      · exact ⟨b, List.mem_singleton.mp h, rb.same s1⟩
    subst hv
    refine ⟨hw _, yes_to ⟨_, hi _, e, _, d, _, one, rfl, he, xf, nf, by simp [List.lookup, hfg], _, hi _, e, _, d, _, two, rfl, he, xf, ng, by simp [List.lookup], (by show 2 ≤ sizeLine; decide), fun p np ns => ?_⟩⟩
    have s2 := same_new (o := .lst [one, two]) np
    have pD : p ≠ D := (ne_of_none hD np).symm
    have hz : rs.length < 2 := by
      rw [hn]
      exact (List.getElem?_eq_some_iff.mp hx).1
    refine ⟨rs.map V.ref, s2 _ _ hD, ?_, rs ++ [p], ?_, ?_, ?_, ?_⟩
    · rw [List.length_map, sizeLine_eq]
      omega
    · intro c o hc
      rw [upd_ne (ne_of_none hc nD)]
      exact s2 _ _ (s1 _ _ hc)
    · rw [List.map_append]
      exact upd_same
    · rw [List.length_append, hn]
      rfl
    · intro c hc
      rcases List.mem_append.mp hc with h | h
      · obtain ⟨h1, h2, h3⟩ := hr c h
        exact ⟨by rw [upd_ne h3]; exact s2 _ _ h1, h2, h3⟩
      · cases List.mem_singleton.mp h
        exact ⟨by rw [upd_ne pD, upd_same], ns, pD⟩
  · rintro H1 ⟨rs, s1, hD, hn, hr⟩
    match rs, hn with
    | [p1, p2], _ =>
      obtain ⟨h1, h2, _⟩ := hr p1 (by simp)
      obtain ⟨h3, h4, _⟩ := hr p2 (by simp)
      exact k D p1 p2 H1 s1 hD ⟨h1, h2⟩ ⟨h3, h4⟩
def spTwo : Sp := fun vs H Q _ => ∃ one two d1 d2, vs = [one, two] ∧ d1 ∈ dats ∧ d2 ∈ dats ∧ Dat H one d1 ∧ Dat H two d2 ∧ ∀ H', Same H H' → Q (.bl true) H'
end K1

/-! K1TwoB -/
set_option Elab.async false
set_option linter.all false
set_option maxRecDepth 100000
set_option maxHeartbeats 1000000
namespace K1
open PySem PySem.Spec PyProof.Rows L2 RV EV He EF EI Gd
section
variable {P : Program} {w : World} {K : PySem.W.Frag} {mg : Str → Option Value} {base : Heap} {f fA fK : Addr} {fd fdA fdK : FuncData}
abbrev scTwo_N : List Str := ["_law_one", "_law_two", "_law_texts", "_law_most", "_law_told", "_law_some_here", "_law_error"]
theorem scTwo : FnScope scTwo_N ["_law_one", "_law_two"] (defScope sTwo) := ⟨rfl, rfl, rfl, by decide +kernel, rfl, by decide +kernel, by decide +kernel⟩
theorem not_nothing : (("Nothing", bN) : NB) ∈ knr := by decide
theorem dp_nil {H : Hp} {a : Addr} (h : H a = some (.lst [])) : Dp K H (.ref a) (.list []) := .lst (SqL.of h) .nil
theorem told_dat {H : Hp} {l p1 p2 p3 p4 : Addr} {one two : V} {d1 d2 : PyData} (L : H l = some (.lst [.ref p1, .ref p2, .ref p3, .ref p4])) (nl : l ≠ sysModules) (h1 : H p1 = some (.lst [one, two]) ∧ p1 ≠ sysModules)
    (h2 : H p2 = some (.lst [one, two]) ∧ p2 ≠ sysModules) (h3 : H p3 = some (.lst [one, two]) ∧ p3 ≠ sysModules) (h4 : H p4 = some (.lst [one, two]) ∧ p4 ≠ sysModules) (D1 : Dat H one d1) (D2 : Dat H two d2) :
    Dat H (.ref l) (.list [.list [d1, d2], .list [d1, d2], .list [d1, d2], .list [d1, d2]]) :=
  .lst L nl (.cons (.lst h1.1 h1.2 (.cons D1 (.cons D2 .nil))) (.cons (.lst h2.1 h2.2 (.cons D1 (.cons D2 .nil))) (.cons (.lst h3.1 h3.2 (.cons D1 (.cons D2 .nil))) (.cons (.lst h4.1 h4.2 (.cons D1 (.cons D2 .nil))) .nil))))
theorem alone_all {σ : L2.St} {H : Hp} {Q : VK} {s i : Nat} {l : Addr} {as : List Addr} (hs : σ[s]? = some (some (.ref l))) (L : H l = some (.lst (as.map V.ref))) (hw : ∀ v, wipe ((wipe σ [i]).set i v) [i] = wipe σ [i]) (hi : ∀ v, ((wipe σ [i]).set i (some v))[i]? = some (some v))
    (hE : ∀ a ∈ as, ∃ q, q ∈ knr ∧ IsErr H a (ga K q.1)) (k : ∀ r H', Same H H' → H' r = some (.lst []) → Q (.ref r) H') :
    tLc (iList K (tVar s)) (gName i) (tNot (tB (tCall (spAlone K) [] E0 (tCons (tVar i) tNil)))) (tVar i) [i] σ H Q := by
  refine ⟨_, hs, l, rfl, ⟨_, SqL.of L⟩, fun D nD => lc_list (K := K) (a := l) (xs := as.map V.ref) (fun n H' => Same (upd H D (.lst [])) H') (fun _ _ e => e) (fun n H' _ s1 => Same.seq (fun c o e => s1 c o (same_new nD c o e)) (SqL.of L)) ?_ ?_⟩
  · intro n v H1 hx s1
    obtain ⟨e, he, rfl⟩ := List.mem_map.mp (List.mem_of_getElem? hx)
    obtain ⟨q, hq, hi'⟩ := hE e he
    refine ⟨hw _, _, hi _, e, q, rfl, hq, hi'.same fun c o h => s1 c o (same_new nD c o h), fun H2 s2 => ⟨true, rfl, if_not rfl ?_⟩⟩
    exact s1.trans s2
  · intro H1 s1
    exact k D H1 (fun c o h => s1 c o (same_new nD c o h)) (s1 _ _ upd_same)
theorem if_eq {x y : V} {A B : Prop} (e : x = y) (h : B) : if (!decide (x = y)) = true then A else B := by
  rw [decide_eq_true e]
  exact iteF h
theorem is_in {q r : NB} {A B : Prop} (e : isOf q r = true) (h : B) : if (!(isOf q r)) = true then A else B := if_not e h
theorem told_made {σ : L2.St} {H : Hp} {D : Ends} {one two : V} {l1 l2 a1 b1 a2 b2 : Addr} (T : KF P w K mg base) (h2 : σ[2]? = some (some (.ref l1))) (h3 : σ[3]? = some (some (.ref l2))) (hw : ∀ v, wipe ((wipe σ [6]).set 6 v) [6] = wipe σ [6]) (hi : ∀ v, ((wipe σ [6]).set 6 (some v))[6]? = some (some v))
    (LA : H l1 = some (.lst [.ref a1, .ref b1])) (LB : H l2 = some (.lst [.ref a2, .ref b2])) (r1 : Two2 K H "BadText" "line" "word" a1 one two) (r2 : Two2 K H "BadText" "line" "word" b1 one two) (r3 : Two2 K H "TooMany" "what" "most" a2 one two) (r4 : Two2 K H "TooMany" "what" "most" b2 one two)
    (k : ∀ (t t1 t2 p1 p2 p3 p4 : Addr) (H3 H4 : Hp), Same H H3 → Same H3 H4 → H3 t1 = some (.lst [.ref p1, .ref p2]) → H4 t2 = some (.lst [.ref p3, .ref p4]) → (H3 p1 = some (.lst [one, two]) ∧ p1 ≠ sysModules) → (H3 p2 = some (.lst [one, two]) ∧ p2 ≠ sysModules) →
      (H4 p3 = some (.lst [one, two]) ∧ p3 ≠ sysModules) → (H4 p4 = some (.lst [one, two]) ∧ p4 ≠ sysModules) → H4 t = none → t ≠ sysModules → D.nx (σ.set 4 (some (.ref t))) (upd H4 t (.lst ([V.ref p1, .ref p2] ++ [.ref p3, .ref p4])))) :
    tAsg (tOp rCat1 (tLc (iList K (tVar 2)) (gName 6) tYes (teL K 6 "line" "word") [6]) (tLc (iList K (tVar 3)) (gName 6) tYes (teL K 6 "what" "most") [6])) (gName 4) D σ H := by
  show tLc (iList K (tVar 2)) (gName 6) tYes (teL K 6 "line" "word") [6] σ H fun x H1 => tLc (iList K (tVar 3)) (gName 6) tYes (teL K 6 "what" "most") [6] σ H1 fun y H2 => rCat1 x y H2 fun z H3 => gName 4 z σ H3 D.nx
  refine two_read (K := K) (σ := σ) (x := "BadText") (f := "line") (g := "word") (i := 6) (s := 2) T.c2.e.xf T.c2.no T.c2.no2 (by decide) hw hi h2 LA r1 r2 fun t1 p1 p2 H3 s3 M1 q1 q2 => ?_
  refine two_read (K := K) (σ := σ) (x := "TooMany") (f := "what") (g := "most") (i := 6) (s := 3) T.c3.e.xf T.c3.no T.c3.no2 (by decide) hw hi h3 (s3 _ _ LB) (r3.same s3) (r4.same s3) fun t2 p3 p4 H4 s4 M2 q3 q4 => ?_
  exact ⟨t1, t2, _, _, rfl, rfl, s4 _ _ M1, M2, (by show 4 ≤ sizeLine; decide), fun t nt ns => k t t1 t2 p1 p2 p3 p4 H3 H4 s3 s4 M1 M2 q1 q2 q3 q4 nt ns⟩
theorem datOk_parts {d : PyData} (h : datOk d = true) : d.showable = true ∧ d.depth ≤ 20 ∧ d.shown.length ≤ sizeLine := by
  obtain ⟨h, h3⟩ := ba h
  obtain ⟨h1, h2⟩ := ba h
  exact ⟨h1, of_decide_eq_true h2, Nat.le_trans (up_ok d) (of_decide_eq_true h3)⟩
theorem end_read {D : Ends} {σ : L2.St} {H : Hp} {l : Addr} {as : List Addr} (hs : σ[5]? = some (some (.ref l))) (L : H l = some (.lst (as.map V.ref))) (hw : ∀ v, wipe ((wipe σ [6]).set 6 v) [6] = wipe σ [6]) (hi : ∀ v, ((wipe σ [6]).set 6 (some v))[6]? = some (some v))
    (hE : ∀ a ∈ as, ∃ q, q ∈ knr ∧ IsErr H a (ga K q.1)) (T : KF P w K mg base) (k : ∀ H', Same H H' → D.rt (.bl true) H') :
    tRet (tAndV (tOp (rEqD K) (tLc (iList K (tVar 5)) (gName 6) (tNot (tB (tCall (spAlone K) [] E0 (tCons (tVar 6) tNil)))) (tVar 6) [6]) (tLst tNil)) (tIsG K (tExc0 (ga K "Nothing")) ("NoAnswer", ["EditionError"]))) D σ H := by
  show tLc (iList K (tVar 5)) (gName 6) (tNot (tB (tCall (spAlone K) [] E0 (tCons (tVar 6) tNil)))) (tVar 6) [6] σ H fun x H1 => tLst tNil σ H1 fun y H2 => rEqD K x y H2 fun z H3 => ∃ c, z = .bl c ∧ if c = true then tIsG K (tExc0 (ga K "Nothing")) ("NoAnswer", ["EditionError"]) σ H3 D.rt else D.rt (.bl false) H3
  refine alone_all hs L hw hi hE fun r H1 s1 R => ⟨Nat.zero_le _, fun y ny => ?_⟩
  have s2 := same_new (o := .lst []) ny
  refine ⟨.list [], .list [], dp_nil (s2 _ _ R), dp_nil upd_same, rfl, rfl, true, rfl, if_pos' fun e ne => ?_⟩
  have z := k (upd (upd H1 y (.lst [])) e (ExO (.ref (ga K "Nothing")) e)) ((s1.trans s2).trans (same_new ne))
  refine ⟨e, _, _, _, _, rfl, .inr upd_same, (T.ek ("Nothing", bN) (by decide)).ex, .own _, kitN (q := ("Nothing", bN)) T (by decide) (by decide), ?_⟩
  have e1 : isOf ("Nothing", bN) ("NoAnswer", ["EditionError"]) = true := by decide
  rw [e1]
  exact z
theorem five {H : Hp} {a1 b1 a2 b2 e : Addr} (i1 : IsErr H a1 (ga K "BadText")) (i2 : IsErr H b1 (ga K "BadText")) (i3 : IsErr H a2 (ga K "TooMany")) (i4 : IsErr H b2 (ga K "TooMany")) (i5 : IsErr H e (ga K "Nothing")) :
    ∀ c ∈ [a1, b1, a2, b2, e], ∃ q, q ∈ knr ∧ IsErr H c (ga K q.1) := by
  intro c hc
  rcases List.mem_cons.mp hc with h | hc
  · exact ⟨("BadText", bI), by decide, h ▸ i1⟩
  rcases List.mem_cons.mp hc with h | hc
  · exact ⟨("BadText", bI), by decide, h ▸ i2⟩
  rcases List.mem_cons.mp hc with h | hc
  · exact ⟨("TooMany", bN), by decide, h ▸ i3⟩
  rcases List.mem_cons.mp hc with h | hc
  · exact ⟨("TooMany", bN), by decide, h ▸ i4⟩
  · exact ⟨("Nothing", bN), by decide, List.mem_singleton.mp hc ▸ i5⟩
theorem ok_two (F : FnP K "_law_two_right" sTwo f fd) (T : KF P w K mg base) (FA : FnP K "_law_is_alone" sAlone fA fdA) (gA : mg "_law_is_alone" = some (.ref fA)) (FK : FnP K "_law_kinds" sKinds fK fdK) (gK : mg "_law_kinds" = some (.ref fK)) :
    FnG P w K mg base CX0 3 f fd ["_law_one", "_law_two"] spTwo := by
  have GA : FnOk P w K mg base CX0 2 fA fdA ["_law_error"] (spAlone K) := ok_alone FA T FK gK
  have bA : L2.Binds K fdA ["_law_error"] [] := FA.bindsN fun _ _ _ _ _ _ us hl => match us, hl with | [_], _ => rfl
  refine ofD F scTwo (fun vs H Q E h => ?_) (fun cdv A outer s H vs Q E hG hr h => ?_)
  · obtain ⟨one, two, d1, d2, rfl, _⟩ := h
    rfl
  · obtain ⟨one, two, d1, d2, rfl, m1, m2, D1, D2, k⟩ := h
    have nEx : PySem.W.excIn K (ga K "Nothing") veBase "ValueError.__new__" = true := T.ex "Nothing" (by decide)
    have nGl : mg "Nothing" = some (.ref (ga K "Nothing")) := T.gl ("Nothing", bN) (by decide)
    have nKp : PySem.W.keepIn K (.ref (ga K "Nothing")) = true := (T.ek ("Nothing", bN) (by decide)).ox.kC
    refine ⟨_, PSs.nox (pss_cons (ps_set (i := 2) scTwo.nd rfl (.inl rfl) (pe_lst (pa_cons (te := tE2 (ga K "BadText") "line" "word" 0 1) (pe_e2 T.c2 hr pass0 (by rfl) (pv 0) (pv 1)) (pa_cons (te := tE2K (ga K "BadText") "line" "word" 0 1) (pe_e2K T.c2 hr pass0 (by rfl) (pv 1) (pv 0)) pa_nil))))
      (pss_cons (ps_set (i := 3) scTwo.nd rfl (.inl rfl) (pe_lst (pa_cons (te := tE2 (ga K "TooMany") "what" "most" 0 1) (pe_e2 T.c3 hr pass0 (by rfl) (pv 0) (pv 1)) (pa_cons (te := tE2K (ga K "TooMany") "what" "most" 0 1) (pe_e2K T.c3 hr pass0 (by rfl) (pv 1) (pv 0)) pa_nil))))
      (pss_cons (ps_set (i := 4) scTwo.nd rfl (.inl rfl) (pe_op op_cat1
        (pe_lc (own := [("_law_error", 6)]) (g := gName 6) (tt := tYes) (te := teL K 6 "line" "word") rfl scTwo.nd (pi_list (pv 2)) (blkOk_by (N := scTwo_N) (sc := defScope sTwo) (by decide +kernel))
          (fun _ _ _ _ _ => pg_name (i := 6) scTwo.nd rfl (.inl rfl)) (fun _ _ _ _ _ => pts_nil) (fun _ _ _ _ _ => pe_lst1 (pa_cons (pe_ef (pv 6)) (pa_cons (pe_ef (pv 6)) pa_nil))))
        (pe_lc (own := [("_law_error", 6)]) (g := gName 6) (tt := tYes) (te := teL K 6 "what" "most") rfl scTwo.nd (pi_list (pv 3)) (blkOk_by (N := scTwo_N) (sc := defScope sTwo) (by decide +kernel))
          (fun _ _ _ _ _ => pg_name (i := 6) scTwo.nd rfl (.inl rfl)) (fun _ _ _ _ _ => pts_nil) (fun _ _ _ _ _ => pe_lst1 (pa_cons (pe_ef (pv 6)) (pa_cons (pe_ef (pv 6)) pa_nil))))))
      (pss_cons (ps_if (PW.pt (pw_or (pt_cmpR op_ne (pe_callB (call_repr hG hr.units) (by rfl) (T.fr "repr" (by decide)) PyProof.Rows.boot_repr (pa_cons (pv 4) pa_nil))
            (pe_callB (call_repr hG hr.units) (by rfl) (T.fr "repr" (by decide)) PyProof.Rows.boot_repr (pa_cons (pe_op op_mulL (pe_lst1 (pa_cons (pe_lst1 (pa_cons (pv 0) (pa_cons (pv 1) pa_nil))) pa_nil)) pe_int) pa_nil)) (nomark _))
          (pw_or (pt_not (pt_val (pe_isG (r := ("BadInput", ["EditionError"])) T (by decide) (by rfl) (by rfl) (by rfl) (pe_ix ix_list (pv 2) pe_int (fun _ _ => rfl)))))
            (pw_or1 (pt_not (pt_val (pe_isG (r := ("NoAnswer", ["EditionError"])) T (by decide) (by rfl) (by rfl) (by rfl) (pe_ix ix_list (pv 3) pe_int (fun _ _ => rfl)))))))))
        (pss_one (ps_ret pe_bl)) pss_nil)
      (pss_cons (ps_set (i := 5) scTwo.nd rfl (.inl rfl) (pe_op op_cat (pe_op op_cat (pv 2) (pv 3)) (pe_lst (pa_cons (pe_exc0 PySem.F.excBase_ValueError nEx nGl nKp (by rfl)) pa_nil))))
      (pss_one (ps_ret (pe_and (pe_cmpR (op_eqD hr.units) (pe_lc (own := [("_law_error", 6)]) (g := gName 6) (tt := tNot (tB (tCall (spAlone K) [] E0 (tCons (tVar 6) tNil)))) (te := tVar 6) rfl scTwo.nd (pi_list (pv 5)) (blkOk_by (N := scTwo_N) (sc := defScope sTwo) (by decide +kernel))
          (fun _ _ _ _ _ => pg_name (i := 6) scTwo.nd rfl (.inl rfl)) (fun _ _ _ _ _ => pts_one (pt_not (pt_val (pe_call GA hr (by rfl) gA FA.kp bA .nil pass0 (pa_cons (pv 6) pa_nil))))) (fun _ _ _ _ _ => pv 6)) (pe_lst pa_nil) (nomark _))
        (pe_one (pe_isG (r := ("NoAnswer", ["EditionError"])) T (by decide) (by rfl) (by rfl) (by rfl) (pe_exc0 PySem.F.excBase_ValueError nEx nGl nKp (by rfl)))))))))))), ?_⟩
    refine two_made (K := K) (x := "BadText") (f := "line") (g := "word") (j := 2) (one := one) (two := two) (by simp [L2.start]) (by simp [L2.start]) fun l1 a1 b1 H1 s1 LA r1 r2 => ?_
    refine two_made (K := K) (x := "TooMany") (f := "what") (g := "most") (j := 3) (one := one) (two := two) (by simp [L2.start]) (by simp [L2.start]) fun l2 a2 b2 H2 s2 LB r3 r4 => ?_
    have LA := s2 _ _ LA
    have r1 := r1.same s2
    have r2 := r2.same s2
    refine told_made (one := one) (two := two) T (by simp [L2.start]) (by simp [L2.start]) (by intro v; simp [wipe, L2.start]) (by intro v; simp [wipe, L2.start]) LA LB r1 r2 r3 r4 fun t t1 t2 p1 p2 p3 p4 H3 H4 s3 s4 M1 M2 q1 q2 q3 q4 nt ns => ?_
    have s5 := same_new (o := .lst ([V.ref p1, .ref p2] ++ [.ref p3, .ref p4])) nt
    have s6 := (s3.trans s4).trans s5
    have LA := s6 _ _ LA
    have LB := s6 _ _ LB
    have r1 := r1.same s6
    have r2 := r2.same s6
    have r3 := r3.same s6
    have r4 := r4.same s6
    have s7 := (s1.trans s2).trans s6
    obtain ⟨o1, o2, o3⟩ := datOk_parts (told_ok _ m1 _ m2)
    refine ⟨_, by simp [L2.start], _, _, rfl, (told_dat (one := one) (two := two) upd_same ns ⟨s5 _ _ (s4 _ _ q1.1), q1.2⟩ ⟨s5 _ _ (s4 _ _ q2.1), q2.2⟩ ⟨s5 _ _ q3.1, q3.2⟩ ⟨s5 _ _ q4.1, q4.2⟩ (D1.same s7) (D2.same s7)), o1, o2, o3, ?_⟩
    refine ⟨one, by simp [L2.start], two, by simp [L2.start], (by show 2 ≤ sizeLine; decide), fun p np nsp => ⟨(by show 1 ≤ sizeLine; decide), fun c nc nsc => ⟨c, 4, [.ref p], rfl, rfl, upd_same, by simp, by decide, by decide, (by show 1 ≤ 1000; decide), fun u nu nsu => ?_⟩⟩⟩
    have s8 := same_new (o := .lst [one, two]) np
    have s9 := same_new (o := .lst [.ref p]) nc
    have s10 := same_new (o := .lst (List.replicate (4 : Int).toNat [V.ref p]).flatten) nu
    have hp := s10 _ _ (s9 _ _ (upd_same (a := p) (o := .lst [one, two])))
    have s11 := (s8.trans s9).trans s10
    have s12 := s7.trans s11
    refine ⟨_, _, rfl, (told_dat (one := one) (two := two) (p1 := p) (p2 := p) (p3 := p) (p4 := p) upd_same nsu ⟨hp, nsp⟩ ⟨hp, nsp⟩ ⟨hp, nsp⟩ ⟨hp, nsp⟩ (D1.same s12) (D2.same s12)), o1, o2, o3, ?_⟩
    refine ⟨rfl, _, rfl, if_eq rfl ?_⟩
    have LA := s11 _ _ LA
    have LB := s11 _ _ LB
    have r1 := r1.same s11
    have r2 := r2.same s11
    have r3 := r3.same s11
    have r4 := r4.same s11
    refine ⟨_, by simp [L2.start], l1, _, _, _, rfl, rfl, SqL.of LA, rfl, a1, _, _, _, _, rfl, r1.isE, (T.ek ("BadText", bI) (by decide)).ex, .own _, kitN (q := ("BadText", bI)) T (by decide) (by decide), _, rfl, is_in (by decide) ?_⟩
    refine ⟨_, by simp [L2.start], l2, _, _, _, rfl, rfl, SqL.of LB, rfl, a2, _, _, _, _, rfl, r3.isE, (T.ek ("TooMany", bN) (by decide)).ex, .own _, kitN (q := ("TooMany", bN)) T (by decide) (by decide), _, rfl, is_in (by decide) ?_⟩
    refine ⟨_, by simp [L2.start], _, by simp [L2.start], l1, l2, _, _, rfl, rfl, LA, LB, (by show 4 ≤ sizeLine; decide), fun v nv => fun e ne => ⟨(by show 1 ≤ sizeLine; decide), fun y ny => ⟨v, y, _, _, rfl, rfl, same_new ny _ _ (same_new ne _ _ upd_same), upd_same, (by show 5 ≤ sizeLine; decide), fun m nm => ?_⟩⟩⟩
    have t1 := same_new (o := .lst ([V.ref a1, .ref b1] ++ [.ref a2, .ref b2])) nv
    have t2 := same_new (o := ExO (.ref (ga K "Nothing")) e) ne
    have t3 := same_new (o := .lst [.ref e]) ny
    have t4 := same_new (o := .lst (([V.ref a1, .ref b1] ++ [.ref a2, .ref b2]) ++ [.ref e])) nm
    have t5 := (t1.trans t2).trans (t3.trans t4)
    refine end_read (as := [a1, b1, a2, b2, e]) (l := m) (by simp [L2.start]) upd_same (by intro v; simp [wipe, L2.start]) (by intro v; simp [wipe, L2.start]) (five (r1.same t5).isE (r2.same t5).isE (r3.same t5).isE (r4.same t5).isE (.inr ((t3.trans t4) _ _ upd_same))) T fun H' s' => ?_
    exact k _ ((s12.trans t5).trans s')
end
end K1

/-! K1LawA -/
set_option Elab.async false
set_option linter.all false
set_option maxRecDepth 100000
set_option maxHeartbeats 1000000
namespace K1
open PySem PySem.Spec PyProof.Rows L2 RV EV He EF EI Gd
/-- isinstance(e, (x, y, z)) -/
def tIs3 (K : PySem.W.Frag) (te : TE) (x y z : NB) : TE := tCB (rIsErrT K) (tCons te (tCons (tTup (tCons (tC (.ref (ga K x.1))) (tCons (tC (.ref (ga K y.1))) (tCons (tC (.ref (ga K z.1))) tNil)))) tNil))
theorem pe_is3 {X : Cx} {x y z : NB} {te : TE} {e : Expr} {p p1 p2 p3 pt pos : Pos} {kt : Nat} (T : KF X.prog X.w X.K X.mg X.base) (hx : x ∈ nams) (hy : y ∈ nams) (hz : z ∈ nams) (hg : Gl X "isinstance") (gx : Gl X x.1) (gy : Gl X y.1) (gz : Gl X z.1)
    (dx : (x.1 == ("__debug__" : Str)) = false) (dy : (y.1 == ("__debug__" : Str)) = false) (dz : (z.1 == ("__debug__" : Str)) = false) (he : PE X e te)
    (h1 : starEach [e, .Tuple [.Name x.1 p1, .Name y.1 p2, .Name z.1 p3] kt pt] X.env = (false, eval e X.env) :: starEach [.Tuple [.Name x.1 p1, .Name y.1 p2, .Name z.1 p3] kt pt] X.env := by rfl)
    (h2 : starEach [.Tuple [.Name x.1 p1, .Name y.1 p2, .Name z.1 p3] kt pt] X.env = (false, eval (.Tuple [.Name x.1 p1, .Name y.1 p2, .Name z.1 p3] kt pt) X.env) :: starEach [] X.env := by rfl)
    (h3 : starEach [.Name x.1 p1, .Name y.1 p2, .Name z.1 p3] X.env = (false, eval (.Name x.1 p1) X.env) :: starEach [.Name y.1 p2, .Name z.1 p3] X.env := by rfl)
    (h4 : starEach [.Name y.1 p2, .Name z.1 p3] X.env = (false, eval (.Name y.1 p2) X.env) :: starEach [.Name z.1 p3] X.env := by rfl)
    (h5 : starEach [.Name z.1 p3] X.env = (false, eval (.Name z.1 p3) X.env) :: starEach [] X.env := by rfl)
    (hpl : (backTo pos (starEach [.Tuple [.Name x.1 p1, .Name y.1 p2, .Name z.1 p3] kt pt] X.env)).any (·.1) = false := by rfl) :
    PE X (.Call (.Name "isinstance" p) [e, .Tuple [.Name x.1 p1, .Name y.1 p2, .Name z.1 p3] kt pt] [] pos) (tIs3 X.K te x y z) :=
  pe_callB call_isErrT hg (T.fr "isinstance" (by decide)) PyProof.Rows.boot_isinstance (pa_cons he (pa_cons (pe_tup (pa_cons (pe_glob (v := .ref (ga X.K x.1)) gx (T.gl x hx) rfl dx)
    (pa_cons (pe_glob (v := .ref (ga X.K y.1)) gy (T.gl y hy) rfl dy) (pa_cons (pe_glob (v := .ref (ga X.K z.1)) gz (T.gl z hz) rfl dz) pa_nil (hs := h5)) (hs := h4)) (hs := h3))) pa_nil (hs := h2)) (hs := h1)) (he := h1) (hpl := hpl)
structure LF (K : PySem.W.Frag) (mg : Str → Option Value) : Prop where
  pen : ∃ f fd, FnP K "_law_pen" sPen f fd ∧ mg "_law_pen" = some (.ref f)
  draw : ∃ f fd, FnP K "_law_draw" sDraw f fd ∧ mg "_law_draw" = some (.ref f)
  pick : ∃ f fd, FnP K "_law_pick" sPick f fd ∧ mg "_law_pick" = some (.ref f)
  som : ∃ f fd, FnP K "_law_some" sSome f fd ∧ mg "_law_some" = some (.ref f)
  part : ∃ f fd, FnP K "_law_parted" sParted f fd ∧ mg "_law_parted" = some (.ref f)
  valu : ∃ f fd, FnP K "_law_valued" sValued f fd ∧ mg "_law_valued" = some (.ref f)
  name : ∃ f fd, FnP K "_law_named" sNamed f fd ∧ mg "_law_named" = some (.ref f)
  kind : ∃ f fd, FnP K "_law_kinds" sKinds f fd ∧ mg "_law_kinds" = some (.ref f)
  alon : ∃ f fd, FnP K "_law_is_alone" sAlone f fd ∧ mg "_law_is_alone" = some (.ref f)
  two : ∃ f fd, FnP K "_law_two_right" sTwo f fd ∧ mg "_law_two_right" = some (.ref f)
abbrev scL_N : List Str := ["_law_script", "_law_pen_here", "_law_turn", "_law_one", "_law_two", "_law_rows", "_law_seen", "_law_first", "_law_field", "_law_second", "_law_other", "_law_number", "_law_refused", "_law_error", "_law_bases"]
theorem scL : FnScope scL_N ["_law_script"] (defScope sLaw) := ⟨rfl, rfl, rfl, by decide +kernel, rfl, by decide +kernel, by decide +kernel⟩
def spLaw (K : PySem.W.Frag) : Sp := fun vs H Q _ => ∃ (s : Addr) (ns : List Int), vs = [.ref s] ∧ SqL K H s (ns.map V.int) ∧ ns.length ≤ 63 ∧ ∀ H', Q (.bl true) H'
end K1

/-! K1LawR -/
set_option Elab.async false
set_option linter.all false
set_option maxRecDepth 100000
set_option maxHeartbeats 1000000
namespace K1
open PySem PySem.Spec PyProof.Rows L2 RV EV He EF EI Gd
abbrev qNo : NB := ("NoAnswer", ["EditionError"])
def kq (q : R1) : List Int := kindsOf (q.x, q.bs)
def dInts (ns : List Int) : PyData := .list (ns.map PyData.int)
theorem dp_all {K : PySem.W.Frag} {H : Hp} : ∀ ns : List Int, DpAll K H (ns.map V.int) (ns.map PyData.int)
  | [] => .nil
  | n :: ns => .cons (.int n) (dp_all ns)
theorem dpi {K : PySem.W.Frag} {H : Hp} {l : Addr} {ns : List Int} (h : H l = some (.lst (ns.map V.int))) : Dp K H (.ref l) (dInts ns) := .lst (SqL.of h) (dp_all ns)
theorem kq_ok : ∀ q ∈ tab, SeqAt.shaped (dInts (kq q)) = true ∧ PyData.eqv (dInts (kq q)) (dInts (kq q)) = true ∧ (kq q).length ≤ 29 ∧ ((q.x, q.bs) : NB) ∈ knr ∧
    isOf (q.x, q.bs) qNo = (isOf (q.x, q.bs) ("Barred", bN) || (isOf (q.x, q.bs) ("Undone", bN) || isOf (q.x, q.bs) ("Unlike", bN))) := by decide +kernel
def tLst1 (t : TA) : TE := fun σ H Q => t σ H fun xs H1 => xs.length ≤ sizeLine ∧ ∀ p, H1 p = none → p ≠ sysModules → Q (.ref p) (upd H1 p (.lst xs))
def tTurn (K : PySem.W.Frag) : TS :=
  tSeq (tIfS (tOr (tTest (tOp rNe (tCB rRepr (tCons (tLst1 (tCons (tVar 8) (tCons (tVar 10) tNil))) tNil)) (tCB rRepr (tCons (tLst1 (tCons (tVar 3) (tCons (tVar 4) tNil))) tNil)))) (tNot (tB (tCall (spAlone K) [] E0 (tCons (tVar 7) tNil))))) (tRet (tC (.bl false))) tNext)
    (tSeq (tIfS (tOr (tTest (tOp (rNeD K) (tCall (spKinds K) [] E0 (tCons (tVar 7) tNil)) (tCall (spKinds K) [] E0 (tCons (tVar 9) tNil)))) (tTest (tOp rNe (tIsG K (tVar 7) qNo) (tIs3 K (tVar 7) ("Barred", bN) ("Undone", bN) ("Unlike", bN))))) (tRet (tC (.bl false))) tNext)
      (tAsg (tOp rCat (tVar 6) (tCall (spKinds K) [] E0 (tCons (tVar 7) tNil))) (gName 6)))
section
variable {P : Program} {w : World} {K : PySem.W.Frag} {mg : Str → Option Value} {base : Heap}
theorem kit3 (T : KF P w K mg base) {q x y z : NB} (hq : q ∈ nams) (hx : x ∈ nams) (hy : y ∈ nams) (hz : z ∈ nams) :
    PySem.W.kitAny K (.ref (ga K q.1)) [.ref (ga K x.1), .ref (ga K y.1), .ref (ga K z.1)] = some (isOf q x || (isOf q y || isOf q z)) := by
  unfold PySem.W.kitAny
  rw [kitN T hq hx]
  cases isOf q x
  · unfold PySem.W.kitAny
    rw [kitN T hq hy]
    cases isOf q y
    · unfold PySem.W.kitAny
      rw [kitN T hq hz]
      cases isOf q z <;> rfl
    · rfl
  · rfl
theorem turn_read {D : Ends} {σ : L2.St} {H : Hp} {one two : V} {d1 d2 : PyData} {a b e : Addr} {q : R1} {xs : List V} (T : KF P w K mg base) (hq : q ∈ tab) (m1 : d1 ∈ dats) (m2 : d2 ∈ dats) (D1 : Dat H one d1) (D2 : Dat H two d2)
    (h3 : σ[3]? = some (some one)) (h4 : σ[4]? = some (some two)) (h6 : σ[6]? = some (some (.ref e))) (h7 : σ[7]? = some (some (.ref a))) (h8 : σ[8]? = some (some one)) (h9 : σ[9]? = some (some (.ref b))) (h10 : σ[10]? = some (some two))
    (ea : IsErr H a (ga K q.x)) (eb : IsErr H b (ga K q.x)) (E : H e = some (.lst xs)) (hz : xs.length ≤ 1000) (k : ∀ m H', Same H H' → H' m = some (.lst (xs ++ (kq q).map V.int)) → D.nx (σ.set 6 (some (.ref m))) H') : tTurn K D σ H := by
  obtain ⟨o1, o2, o3⟩ := datOk_parts (pair_ok _ m1 _ m2)
  obtain ⟨z1, z2, z3, z4, z5⟩ := kq_ok q hq
  have hn := nams_of hq
  refine ⟨one, h8, two, h10, (by show 2 ≤ sizeLine; decide), fun u nu nsu => ?_⟩
  have s1 := same_new (o := .lst [one, two]) nu
  refine ⟨_, _, rfl, .lst upd_same nsu (.cons (D1.same s1) (.cons (D2.same s1) .nil)), o1, o2, o3, one, h3, two, h4, (by show 2 ≤ sizeLine; decide), fun v nv nsv => ?_⟩
  have s2 := s1.trans (same_new (o := .lst [one, two]) nv)
  refine ⟨_, _, rfl, .lst upd_same nsv (.cons (D1.same s2) (.cons (D2.same s2) .nil)), o1, o2, o3, rfl, _, rfl, if_eq rfl ?_⟩
  refine ⟨_, h7, a, (q.x, q.bs), rfl, z4, ea.same s2, fun H3 s3 => ⟨true, rfl, if_not rfl ?_⟩⟩
  have s3 := s2.trans s3
  refine ⟨_, h7, a, (q.x, q.bs), rfl, hn, ea.same s3, fun l1 H4 _ s4 L1 => ⟨_, h9, b, (q.x, q.bs), rfl, hn, eb.same (s3.trans s4), fun l2 H5 _ s5 L2 => ?_⟩⟩
  have s6 := (s3.trans s4).trans s5
  refine ⟨dInts (kq q), dInts (kq q), dpi (s5 _ _ L1), dpi L2, z1, z1, _, rfl, if_not z2 ?_⟩
  refine ⟨_, h7, a, _, _, _, _, rfl, ea.same s6, (T.ek _ hn).ex, .own _, kitN (q := (q.x, q.bs)) (r := qNo) T hn (by decide), _, h7, (by show 3 ≤ sizeLine; decide), fun tp ntp => ?_⟩
  have s7 := s6.trans (same_new (o := .tup [.ref (ga K "Barred"), .ref (ga K "Undone"), .ref (ga K "Unlike")]) ntp)
  refine ⟨a, ga K q.x, tp, _, _, _, rfl, ea.same s7, (T.ek _ hn).ex, upd_same, .cons (.own _) (.cons (.own _) (.cons (.own _) .nil)), kit3 (q := (q.x, q.bs)) (x := ("Barred", bN)) (y := ("Undone", bN)) (z := ("Unlike", bN)) T hn (by decide) (by decide) (by decide), rfl, _, rfl, if_eq (congrArg V.bl z5) ?_⟩
  refine ⟨_, h6, _, h7, a, (q.x, q.bs), rfl, hn, ea.same s7, fun l3 H8 _ s8 L3 => ⟨e, l3, _, _, rfl, rfl, s8 _ _ (s7 _ _ E), L3, ?_, fun m nm => ?_⟩⟩
  · have z6 : (kindsOf (q.x, q.bs)).length ≤ 29 := z3
    rw [List.length_map, sizeLine_eq]
    omega
  · exact k m _ ((s7.trans s8).trans (same_new nm)) upd_same
end
end K1

/-! K1LawS -/
set_option Elab.async false
set_option linter.all false
set_option maxRecDepth 100000
set_option maxHeartbeats 1000000
namespace K1
open PySem PySem.Spec PyProof.Rows L2 RV EV He EF EI Gd
def tRowFor (K : PySem.W.Frag) : TS := tFor (iList K (tVar 5)) (gTup K 4 (gCons (gName 7) (gCons (gName 8) (gCons (gName 9) (gCons (gName 10) gNil))))) (tTurn K)
def tRowsI (K : PySem.W.Frag) : TS := tPar 5 6 (tCons (tOp rCat (tOp rCat (tCall (spRows K part) [] E0 (tCons (tVar 3) (tCons (tVar 4) tNil))) (tCall (spRows K (valu ++ ats)) [] E0 (tCons (tVar 3) (tCons (tVar 4) tNil))))
  (tCall (spRows K name) [] E0 (tCons (tVar 3) (tCons (tVar 4) tNil)))) (tCons (tLst tNil) tNil))
def rws : List R1 := (part ++ (valu ++ ats)) ++ name
theorem rws_tab : ∀ q ∈ rws, q ∈ tab := by decide +kernel
theorem rws_len : rws.length = 26 := by decide +kernel
theorem kq_sum : ∀ n, n ≤ 26 → ((rws.take n).flatMap kq).length ≤ 100 := by decide +kernel
section
variable {P : Program} {w : World} {K : PySem.W.Frag} {mg : Str → Option Value} {base : Heap}
theorem LstOf.cat {one two : V} {H H' : Hp} {l m r : Addr} {ts us : List Addr} {qs ps : List R1} (A : LstOf (rW K one two) H l ts qs) (B : LstOf (rW K one two) H m us ps) (s : Same H H') (at_ : H' r = some (.lst (ts.map V.ref ++ us.map V.ref))) :
    LstOf (rW K one two) H' r (ts ++ us) (qs ++ ps) := ⟨by rw [List.map_append]; exact at_, Paired.app (A.sameR s).each (B.sameR s).each⟩
theorem rows_read {D : Ends} {σ : L2.St} {H : Hp} {one two : V} (h3 : σ[3]? = some (some one)) (h4 : σ[4]? = some (some two))
    (k : ∀ q e ts H', Same H H' → LstOf (rW K one two) H' q ts rws → H' e = some (.lst []) → D.nx ((σ.set 5 (some (.ref q))).set 6 (some (.ref e))) H') : tRowsI K D σ H := by
  refine ⟨one, h3, two, h4, one, two, rfl, fun l1 t1 H1 s1 L1 => ⟨one, h3, two, h4, one, two, rfl, fun l2 t2 H2 s2 L2 => ?_⟩⟩
  have e1 : t1.length = part.length := L1.each.length
  have e2 : t2.length = (valu ++ ats).length := L2.each.length
  refine ⟨l1, l2, _, _, rfl, rfl, s2 _ _ L1.at_, L2.at_, ?_, fun m nm => ?_⟩
  · rw [List.length_map, List.length_map, e1, e2]
    exact (by decide : 19 ≤ sizeLine)
  have s3 := same_new (o := .lst (t1.map V.ref ++ t2.map V.ref)) nm
  have M := LstOf.cat (L1.sameR s2) L2 s3 upd_same
  refine ⟨one, h3, two, h4, one, two, rfl, fun l3 t3 H3 s4 L3 => ?_⟩
  have e3 : t3.length = name.length := L3.each.length
  have eM : (t1 ++ t2).length = (part ++ (valu ++ ats)).length := M.each.length
  refine ⟨m, l3, _, _, rfl, rfl, s4 _ _ M.at_, L3.at_, ?_, fun r nr => ⟨Nat.zero_le _, fun e ne => ⟨_, _, rfl, ?_⟩⟩⟩
  · rw [List.length_map, List.length_map, e3, eM]
    exact (by decide : 26 ≤ sizeLine)
  have s5 := same_new (o := .lst ((t1 ++ t2).map V.ref ++ t3.map V.ref)) nr
  have s6 := same_new (o := .lst []) ne
  have Z := LstOf.cat (M.sameR s4) L3 s5 upd_same
  exact k r e _ _ (((s1.trans s2).trans (s3.trans s4)).trans (s5.trans s6)) (Z.sameR s6) upd_same
theorem row_for {D : Ends} {σ : L2.St} {H : Hp} {one two : V} {d1 d2 : PyData} {q e : Addr} {ts : List Addr} (T : KF P w K mg base) (m1 : d1 ∈ dats) (m2 : d2 ∈ dats) (D1 : Dat H one d1) (D2 : Dat H two d2)
    (len : σ.length = 15) (h3 : σ[3]? = some (some one)) (h4 : σ[4]? = some (some two)) (h5 : σ[5]? = some (some (.ref q))) (h6 : σ[6]? = some (some (.ref e))) (L : LstOf (rW K one two) H q ts rws) (E : H e = some (.lst []))
    (k : ∀ σ' H' e', Same H H' → σ'.length = 15 → σ'[1]? = σ[1]? → σ'[3]? = σ[3]? → σ'[4]? = σ[4]? → σ'[5]? = σ[5]? → σ'[6]? = some (some (.ref e')) → H' e' = some (.lst ((rws.flatMap kq).map V.int)) → D.nx σ' H') : tRowFor K D σ H := by
  have hlen : ts.length = rws.length := L.each.length
  refine ⟨_, h5, q, rfl, ⟨_, SqL.of L.at_⟩, for_list (K := K) (a := q) (xs := ts.map V.ref)
    (fun n σ' H' => Same H H' ∧ σ'.length = 15 ∧ σ'[1]? = σ[1]? ∧ σ'[3]? = σ[3]? ∧ σ'[4]? = σ[4]? ∧ σ'[5]? = σ[5]? ∧ ∃ e', σ'[6]? = some (some (.ref e')) ∧ H' e' = some (.lst (((rws.take n).flatMap kq).map V.int)))
    ⟨fun _ _ z => z, len, rfl, rfl, rfl, rfl, e, h6, E⟩ (fun n σ' H' _ z => z.1.seq (SqL.of L.at_)) ?_ ?_⟩
  · rintro n x σ1 H1 hx ⟨s1, l1, c1, c3, c4, c5, e', c6, E'⟩
    rw [List.getElem?_map] at hx
    obtain ⟨t, ht, rfl⟩ : ∃ t, ts[n]? = some t ∧ x = V.ref t := by
      cases z : ts[n]? with
      | none => rw [z] at hx; cases hx
      | some t => rw [z] at hx; exact ⟨t, rfl, (Option.some.inj hx).symm⟩
    obtain ⟨r, hrn, hp⟩ := Paired.at L.each ht
    obtain ⟨a, b, d, d', g1, g2, g3⟩ := RowAt.same hp s1
    obtain ⟨hn, hv⟩ := List.getElem?_eq_some_iff.mp hrn
    have more : rws.take (n + 1) = rws.take n ++ [r] := by
      rw [← hv]
      exact List.take_succ_eq_append_getElem hn
    rw [rws_len] at hn
    refine ⟨t, _, rfl, SqT.of g1, rfl, _, _, rfl, _, _, rfl, _, _, rfl, _, _, rfl, rfl, ?_⟩
    refine turn_read (q := r) (a := a) (b := b) (e := e') (one := one) (two := two) T (rws_tab r (List.mem_of_getElem? hrn)) m1 m2 (D1.same s1) (D2.same s1) (by simp [c3, h3]) (by simp [c4, h4]) (by simp [c6]) (by simp [l1]) (by simp [l1]) (by simp [l1]) (by simp [l1])
      (.inl ⟨d, _, g2⟩) (.inl ⟨d', _, g3⟩) E' ?_ fun m H2 s2 M => ?_
    · rw [List.length_map]
      exact Nat.le_trans (kq_sum n (Nat.le_of_lt hn)) (by decide)
    · refine ⟨s1.trans s2, by simp [l1], by simp [c1], by simp [c3], by simp [c4], by simp [c5], m, by simp [l1], ?_⟩
      rw [M, more, List.flatMap_append, List.map_append]
      simp
  · rintro σ1 H1 ⟨s1, l1, c1, c3, c4, c5, e', c6, E'⟩
    rw [List.length_map, hlen, List.take_length] at E'
    exact k σ1 H1 e' s1 l1 c1 c3 c4 c5 c6 E'
end
end K1

/-! K1LawE -/
set_option Elab.async false
set_option linter.all false
set_option maxRecDepth 100000
set_option maxHeartbeats 1000000
namespace K1
open PySem PySem.Spec PyProof.Rows L2 RV EV He EF EI Gd
def rInt1 : List V → Hp → VK → Prop := fun xs H Q => (∃ i, xs = [V.int i] ∧ Q (V.int i) H) ∨ ∃ k, xs = [V.bl k] ∧ Q (V.int (if k = true then 1 else 0)) H
def rLn (K : PySem.W.Frag) : List V → Hp → VK → Prop := fun xs H Q => ∃ p ys, xs = [V.ref p] ∧ (SqL K H p ys ∨ SqT K H p ys) ∧ Q (V.int (ys.length : Int)) H
def tSeen (K : PySem.W.Frag) : TS := tIfS (tOr (tTest (tOp (rNeD K) (tCB (rSortedI K) (tCons (tLc (iList K (tVar 6)) (gName 11) tYes (tCB rInt1 (tCons (tVar 11) tNil)) [11]) tNil)) (tLstRg (tRg1 (tCB (rLn K) (tCons (tVar 5) tNil))))))
  (tNot (tB (tCall spTwo [] E0 (tCons (tVar 3) (tCons (tVar 4) tNil)))))) (tRet (tC (.bl false))) tNext
def rng26 : List Int := (List.range 26).map fun (n : Nat) => (n : Int)
theorem srt_eq : ∀ {xs ys : List Int}, xs.Perm ys → xs.Pairwise (· ≤ ·) → ys.Pairwise (· ≤ ·) → xs = ys
  | [], ys, p, _, _ => p.nil_eq
  | x :: xs, [], p, _, _ => absurd p.length_eq (by simp)
  | x :: xs, y :: ys, p, hx, hy => by
    have h1 : x ∈ y :: ys := p.mem_iff.mp List.mem_cons_self
    have h2 : y ∈ x :: xs := p.mem_iff.mpr List.mem_cons_self
    have a1 : y ≤ x := by
      rcases List.mem_cons.mp h1 with h | h
      · exact Int.le_of_eq h.symm
      · exact (List.pairwise_cons.mp hy).1 x h
    have a2 : x ≤ y := by
      rcases List.mem_cons.mp h2 with h | h
      · exact Int.le_of_eq h.symm
      · exact (List.pairwise_cons.mp hx).1 y h
    have e : x = y := Int.le_antisymm a2 a1
    subst e
    rw [srt_eq (List.Perm.cons_inv p) (List.pairwise_cons.mp hx).2 (List.pairwise_cons.mp hy).2]
theorem seen_perm : (rws.flatMap kq).Perm rng26 := by decide +kernel
theorem seen_len : (rws.flatMap kq).length = 26 := by decide +kernel
theorem rng_srt : rng26.Pairwise (· ≤ ·) := by decide +kernel
theorem rng_ok : SeqAt.shaped (dInts rng26) = true ∧ PyData.eqv (dInts rng26) (dInts rng26) = true := by decide +kernel
theorem rg_eq : rgV 0 26 = rng26.map V.int := by rfl
section
variable {P : Program} {w : World} {K : PySem.W.Frag} {mg : Str → Option Value} {base : Heap}
theorem ints_copy {σ : L2.St} {H : Hp} {Q : VK} {s i : Nat} {l : Addr} {ns : List Int} (hw : ∀ v, wipe ((wipe σ [i]).set i v) [i] = wipe σ [i]) (hi : ∀ v, ((wipe σ [i]).set i (some v))[i]? = some (some v)) (hs : σ[s]? = some (some (.ref l)))
    (L : H l = some (.lst (ns.map V.int))) (hz : ns.length ≤ 1000) (k : ∀ r H', Same H H' → H' r = some (.lst (ns.map V.int)) → Q (.ref r) H') : tLc (iList K (tVar s)) (gName i) tYes (tCB rInt1 (tCons (tVar i) tNil)) [i] σ H Q := by
  refine ⟨_, hs, l, rfl, ⟨_, SqL.of L⟩, fun D nD => lc_list (K := K) (a := l) (xs := ns.map V.int) (fun n H' => Same H H' ∧ H' D = some (.lst ((ns.take n).map V.int))) ⟨same_new nD, upd_same⟩ (fun n H' _ z => z.1.seq (SqL.of L)) ?_ ?_⟩
  · rintro n x H1 hx ⟨s1, hD⟩
    rw [List.getElem?_map] at hx
    obtain ⟨j, hj, rfl⟩ : ∃ j, ns[n]? = some j ∧ x = V.int j := by
      cases z : ns[n]? with
      | none => rw [z] at hx; cases hx
      | some t => rw [z] at hx; exact ⟨t, rfl, (Option.some.inj hx).symm⟩
    obtain ⟨hn, hv⟩ := List.getElem?_eq_some_iff.mp hj
    have more : ns.take (n + 1) = ns.take n ++ [j] := by
      rw [← hv]
      exact List.take_succ_eq_append_getElem hn
    refine ⟨hw _, yes_to ⟨_, hi _, .inl ⟨j, rfl, _, hD, ?_, ?_, ?_⟩⟩⟩
    · rw [List.length_map, List.length_take, sizeLine_eq]
      omega
    · intro c o hc
      rw [upd_ne (ne_of_none hc nD)]
      exact s1 _ _ hc
    · rw [more, List.map_append]
      exact upd_same
  · rintro H1 ⟨s1, hD⟩
    rw [List.length_map, List.take_length] at hD
    exact k D H1 s1 hD
theorem seen_read {D : Ends} {σ : L2.St} {H : Hp} {one two : V} {d1 d2 : PyData} {q e : Addr} {ts : List Addr} (m1 : d1 ∈ dats) (m2 : d2 ∈ dats) (D1 : Dat H one d1) (D2 : Dat H two d2)
    (len : σ.length = 15) (h3 : σ[3]? = some (some one)) (h4 : σ[4]? = some (some two)) (h5 : σ[5]? = some (some (.ref q))) (h6 : σ[6]? = some (some (.ref e))) (L : LstOf (rW K one two) H q ts rws) (E : H e = some (.lst ((rws.flatMap kq).map V.int)))
    (k : ∀ H', Same H H' → D.nx σ H') : tSeen K D σ H := by
  have hlen : ts.length = rws.length := L.each.length
  show tLc (iList K (tVar 6)) (gName 11) tYes (tCB rInt1 (tCons (tVar 11) tNil)) [11] σ H fun x H1 => rSortedI K [x] H1 fun y H2 => tLstRg (tRg1 (tCB (rLn K) (tCons (tVar 5) tNil))) σ H2 fun z H3 => rNeD K y z H3 fun b H4 => ∃ c, b = .bl c ∧ (fun c H5 => if c = true then (fun b H6 => if b = true then tRet (tC (.bl false)) D σ H6 else tNext D σ H6) true H5 else (tNot (tB (tCall spTwo [] E0 (tCons (tVar 3) (tCons (tVar 4) tNil))))) σ H5 fun b H6 => if b = true then tRet (tC (.bl false)) D σ H6 else tNext D σ H6) c H4
  refine ints_copy (l := e) (fun v => ?_) (fun v => ?_) h6 E (by rw [seen_len]; decide) fun r H1 s1 R => ?_
  · apply List.ext_getElem?
    intro j
    simp [wipe, List.getElem?_set]
  · simp [wipe, len]
  refine ⟨r, _, rfl, SqL.of R, fun ns' p perm pw np => ?_⟩
  have e' : ns' = rng26 := srt_eq (perm.trans seen_perm) pw rng_srt
  subst e'
  have s2 := s1.trans (same_new (o := .lst (rng26.map V.int)) np)
  have en : (((ts.map V.ref).length : Nat) : Int) = 26 := by rw [List.length_map, hlen, rws_len]; rfl
  refine ⟨_, h5, q, _, rfl, .inl (SqL.of (s2 _ _ L.at_)), _, rfl, ?_, fun z nz => ?_⟩
  · rw [en]
    exact RgOk.of_le (by decide) (by decide) (by decide) (by decide)
  rw [en, rg_eq]
  have s3 := same_new (o := .lst (rng26.map V.int)) nz
  refine ⟨dInts rng26, dInts rng26, dpi (s3 _ _ upd_same), dpi upd_same, rng_ok.1, rng_ok.1, _, rfl, if_not rng_ok.2 ?_⟩
  have s4 := s2.trans s3
  exact ⟨one, h3, two, h4, one, two, d1, d2, rfl, m1, m2, D1.same s4, D2.same s4, fun H' s5 => ⟨true, rfl, if_not rfl (k _ (s4.trans s5))⟩⟩
end
end K1

/-! K1LawF -/
set_option Elab.async false
set_option linter.all false
set_option maxRecDepth 100000
set_option maxHeartbeats 1000000
namespace RV
open PySem PySem.Spec PyProof.Rows L2
/-! data without a list of three -/
mutual
def short : PyData → Bool
  | .list xs => decide (xs.length ≠ 3) && shortAll xs
  | .tuple xs => shortAll xs
  | .dict kvs => shortKv kvs
  | _ => true
def shortAll : List PyData → Bool
  | [] => true
  | x :: xs => short x && shortAll xs
def shortKv : List (PyData × PyData) → Bool
  | [] => true
  | (_, v) :: r => short v && shortKv r
end
theorem shortKv_eq : ∀ kvs : List (PyData × PyData), shortKv kvs = shortAll (kvs.map (·.2))
  | [] => by simp only [shortKv, List.map_nil, shortAll]
  | (k, v) :: r => by simp only [shortKv, List.map_cons, shortAll, shortKv_eq r]
theorem Dats.len {H : Hp} : ∀ {xs : List V} {ds : List PyData}, Dats H xs ds → xs.length = ds.length
  | _, _, .nil => rfl
  | _, _, .cons _ t => by rw [List.length_cons, List.length_cons, Dats.len t]
mutual
theorem Dat.past {H H' : Hp} {p : Addr} {x y z : V} (hp : H p = some (.lst [x, y, z])) (k : ∀ c o, c ≠ p → H c = some o → H' c = some o) {v : V} {d : PyData} : Dat H v d → short d = true → Dat H' v d
  | .non, _ => .non
  | .bl b, _ => .bl b
  | .int i, _ => .int i
  | .str s, _ => .str s
  | .tup (a := a) e r, s => by
    simp only [short] at s
    exact .tup (k _ _ (fun q => by rw [q, hp] at e; cases e) e) (Dats.past hp k r s)
  | .lst (a := a) e n r, s => by
    simp only [short, Bool.and_eq_true, decide_eq_true_eq] at s
    refine .lst (k _ _ (fun q => ?_) e) n (Dats.past hp k r s.2)
    rw [q, hp] at e
    cases e
    exact s.1 (Dats.len r).symm
  | .dic (a := a) e q r, s => by
    simp only [short, shortKv_eq] at s
    exact .dic (k _ _ (fun q => by rw [q, hp] at e; cases e) e) q (Dats.past hp k r s)
theorem Dats.past {H H' : Hp} {p : Addr} {x y z : V} (hp : H p = some (.lst [x, y, z])) (k : ∀ c o, c ≠ p → H c = some o → H' c = some o) {xs : List V} {ds : List PyData} : Dats H xs ds → shortAll ds = true → Dats H' xs ds
  | .nil, _ => .nil
  | .cons r t, s => by
    simp only [shortAll, Bool.and_eq_true] at s
    exact .cons (Dat.past hp k r s.1) (Dats.past hp k t s.2)
end
end RV
namespace K1
open PySem PySem.Spec PyProof.Rows L2 RV EV He EF EI Gd
theorem dats_short : ∀ d ∈ dats, short d = true := by decide +kernel
def tX (K : PySem.W.Frag) (x : Str) : TE := fun σ H Q => tC (.str "a") σ H fun _ H1 => ∀ a, H1 a = none → Q (.ref a) (upd H1 a (ExO (.ref (ga K x)) a))
def tRef (K : PySem.W.Frag) : TS := tAsg (tLst (tCons (tE1 (ga K "Barred") "clause" (tC (.int 0))) (tCons (tE1 (ga K "Undone") "at" (tC (.int 0))) (tCons (tE1 (ga K "Unlike") "part" (tC (.int 0))) tNil)))) (gName 12)
def tRefIf (K : PySem.W.Frag) : TS := tIfS (tOr (tTest (tOp (rNeD K) (tLc (iList K (tVar 12)) (gName 13) (tNot (tB (tIsG K (tVar 13) qNo))) (tVar 13) [13]) (tLst tNil))) (tNot (tB (tIsG K (tE1 (ga K "Ring") "fix" (tC (.int 0))) ("BadInput", ["EditionError"]))))) (tRet (tC (.bl false))) tNext
def tBas (K : PySem.W.Frag) : TS := tAsg (tLst (tCons (tX K "EditionError") (tCons (tX K "BadInput") (tCons (tX K "NoAnswer") tNil)))) (gName 14)
def tFin (K : PySem.W.Frag) : TS := tRet (tAndV (tOp (rEqD K) (tLc (iList K (tVar 14)) (gName 13) tYes (tCall (spKinds K) [] E0 (tCons (tVar 13) tNil)) [13]) (tOp rMulL (tLst1 (tCons (tLst1 tNil) tNil)) (tC (.int 3))))
  (tAndV (tIsG K (tOp (rIxL K) (tVar 14) (tC (.int 1))) ("EditionError", [])) (tNotV (tIsG K (tOp (rIxL K) (tVar 14) (tC (.int 1))) qNo))))
section
variable {P : Program} {w : World} {K : PySem.W.Frag} {mg : Str → Option Value} {base : Heap}
theorem ref_read {D : Ends} {σ : L2.St} {H : Hp} (k : ∀ l a b c H', Same H H' → H' l = some (.lst [.ref a, .ref b, .ref c]) → IsErr H' a (ga K "Barred") → IsErr H' b (ga K "Undone") → IsErr H' c (ga K "Unlike") → D.nx (σ.set 12 (some (.ref l))) H') : tRef K D σ H := by
  refine fun a d na nd ne => fun b e nb nee ne2 => fun c f nc nf ne3 => ⟨(by show 3 ≤ sizeLine; decide), fun l nl => ?_⟩
  have s1 := mkE_same (C := ga K "Barred") (fs := [("clause", V.int 0)]) na nd
  have s2 := mkE_same (C := ga K "Undone") (fs := [("at", V.int 0)]) nb nee
  have s3 := mkE_same (C := ga K "Unlike") (fs := [("part", V.int 0)]) nc nf
  have s4 := same_new (o := .lst [.ref a, .ref b, .ref c]) nl
  exact k l a b c _ ((s1.trans s2).trans (s3.trans s4)) upd_same (.inl ⟨d, _, (mkE_at ne).same (s2.trans (s3.trans s4))⟩) (.inl ⟨e, _, (mkE_at ne2).same (s3.trans s4)⟩) (.inl ⟨f, _, (mkE_at ne3).same s4⟩)
theorem three {H : Hp} {a b c : Addr} (i1 : IsErr H a (ga K "Barred")) (i2 : IsErr H b (ga K "Undone")) (i3 : IsErr H c (ga K "Unlike")) : ∀ e ∈ [a, b, c], ∃ q, q ∈ nams ∧ isOf q qNo = true ∧ IsErr H e (ga K q.1) := by
  intro e he
  rcases List.mem_cons.mp he with h | he
  · exact ⟨("Barred", bN), by decide, by decide, h ▸ i1⟩
  rcases List.mem_cons.mp he with h | he
  · exact ⟨("Undone", bN), by decide, by decide, h ▸ i2⟩
  · exact ⟨("Unlike", bN), by decide, by decide, List.mem_singleton.mp he ▸ i3⟩
theorem refif_read {D : Ends} {σ : L2.St} {H : Hp} {l a b c : Addr} (T : KF P w K mg base) (len : σ.length = 15) (h : σ[12]? = some (some (.ref l))) (L : H l = some (.lst [.ref a, .ref b, .ref c])) (i1 : IsErr H a (ga K "Barred")) (i2 : IsErr H b (ga K "Undone")) (i3 : IsErr H c (ga K "Unlike"))
    (k : ∀ H', Same H H' → D.nx σ H') : tRefIf K D σ H := by
  have hE := three i1 i2 i3
  have hw : ∀ v, wipe ((wipe σ [13]).set 13 v) [13] = wipe σ [13] := fun v => by
    apply List.ext_getElem?
    intro j
    simp [wipe, List.getElem?_set]
  have hi : ∀ v, ((wipe σ [13]).set 13 (some v))[13]? = some (some v) := fun v => by simp [wipe, len]
  refine ⟨_, h, l, rfl, ⟨_, SqL.of L⟩, fun Z nZ => lc_list (K := K) (a := l) (xs := [a, b, c].map V.ref) (fun n H' => Same (upd H Z (.lst [])) H') (fun _ _ e => e) (fun n H' _ s1 => Same.seq (fun c o e => s1 c o (same_new nZ c o e)) (SqL.of L)) ?_ ?_⟩
  · intro n v H1 hx s1
    obtain ⟨e, he, rfl⟩ := List.mem_map.mp (List.mem_of_getElem? hx)
    obtain ⟨q, hq, hq2, hi'⟩ := hE e he
    refine ⟨hw _, _, hi _, e, _, _, _, _, rfl, hi'.same (fun c o h => s1 c o (same_new nZ c o h)), (T.ek q hq).ex, .own _, kitN T hq (by decide : qNo ∈ nams), _, rfl, is_in hq2 s1⟩
  · intro H1 s1
    refine ⟨Nat.zero_le _, fun y ny => ?_⟩
    have s2 := s1.trans (same_new (o := .lst []) ny)
    refine ⟨.list [], .list [], dp_nil (s2 _ _ upd_same), dp_nil upd_same, rfl, rfl, _, rfl, if_not (rfl : PyData.eqv (.list []) (.list []) = true) ?_⟩
    refine fun e d ne nd nn => ⟨e, _, _, _, _, rfl, .inl ⟨d, _, mkE_at nn⟩, (T.ek ("Ring", bI) (by decide)).ex, .own _, kitN (q := ("Ring", bI)) (r := ("BadInput", ["EditionError"])) T (by decide) (by decide), _, rfl, is_in (by decide) ?_⟩
    exact k _ (((same_new nZ).trans s2).trans (mkE_same ne nd))
theorem bas_read {D : Ends} {σ : L2.St} {H : Hp} (k : ∀ l a b c H', Same H H' → H' l = some (.lst [.ref a, .ref b, .ref c]) → IsErr H' a (ga K "EditionError") → IsErr H' b (ga K "BadInput") → IsErr H' c (ga K "NoAnswer") → D.nx (σ.set 14 (some (.ref l))) H') : tBas K D σ H := by
  refine fun a na => fun b nb => fun c nc => ⟨(by show 3 ≤ sizeLine; decide), fun l nl => ?_⟩
  have s1 := same_new (o := ExO (.ref (ga K "EditionError")) a) na
  have s2 := same_new (o := ExO (.ref (ga K "BadInput")) b) nb
  have s3 := same_new (o := ExO (.ref (ga K "NoAnswer")) c) nc
  have s4 := same_new (o := .lst [.ref a, .ref b, .ref c]) nl
  exact k l a b c _ ((s1.trans s2).trans (s3.trans s4)) upd_same (.inr ((s2.trans (s3.trans s4)) _ _ upd_same)) (.inr ((s3.trans s4) _ _ upd_same)) (.inr (s4 _ _ upd_same))
theorem three2 {H : Hp} {a b c : Addr} (i1 : IsErr H a (ga K "EditionError")) (i2 : IsErr H b (ga K "BadInput")) (i3 : IsErr H c (ga K "NoAnswer")) : ∀ e ∈ [a, b, c], ∃ q, q ∈ nams ∧ kindsOf q = [] ∧ IsErr H e (ga K q.1) := by
  intro e he
  rcases List.mem_cons.mp he with h | he
  · exact ⟨("EditionError", []), by decide, by decide, h ▸ i1⟩
  rcases List.mem_cons.mp he with h | he
  · exact ⟨("BadInput", ["EditionError"]), by decide, by decide, h ▸ i2⟩
  · exact ⟨qNo, by decide, by decide, List.mem_singleton.mp he ▸ i3⟩
theorem fin_read {D : Ends} {σ : L2.St} {H : Hp} {l a b c : Addr} (T : KF P w K mg base) (len : σ.length = 15) (h : σ[14]? = some (some (.ref l))) (L : H l = some (.lst [.ref a, .ref b, .ref c])) (i1 : IsErr H a (ga K "EditionError")) (i2 : IsErr H b (ga K "BadInput")) (i3 : IsErr H c (ga K "NoAnswer"))
    (k : ∀ H', D.rt (.bl true) H') : tFin K D σ H := by
  have hE := three2 i1 i2 i3
  have hw : ∀ v, wipe ((wipe σ [13]).set 13 v) [13] = wipe σ [13] := fun v => by
    apply List.ext_getElem?
    intro j
    simp [wipe, List.getElem?_set]
  have hi : ∀ v, ((wipe σ [13]).set 13 (some v))[13]? = some (some v) := fun v => by simp [wipe, len]
  refine ⟨_, h, l, rfl, ⟨_, SqL.of L⟩, fun Z nZ => lc_list (K := K) (a := l) (xs := [a, b, c].map V.ref) (fun n H' => ∃ rs : List Addr, Same H H' ∧ H' Z = some (.lst (rs.map V.ref)) ∧ rs.length = n ∧ ∀ p ∈ rs, H' p = some (.lst []) ∧ p ≠ Z) ⟨[], same_new nZ, upd_same, rfl, fun p hp => nomatch hp⟩
    (fun n H' _ ⟨_, s1, _⟩ => s1.seq (SqL.of L)) ?_ ?_⟩
  · rintro n v H1 hx ⟨rs, s1, hZ, hn, hr⟩
    obtain ⟨e, he, rfl⟩ := List.mem_map.mp (List.mem_of_getElem? hx)
    obtain ⟨q, hq, hq2, hi'⟩ := hE e he
    refine ⟨hw _, yes_to ⟨_, hi _, e, q, rfl, hq, hi'.same s1, fun r H2 nr s2 R => ⟨rs.map V.ref, s2 _ _ hZ, ?_, rs ++ [r], ?_, ?_, ?_, ?_⟩⟩⟩
    · have hz : n < 3 := (List.getElem?_eq_some_iff.mp hx).1
      rw [List.length_map, sizeLine_eq]
      omega
    · intro c o hc
      rw [upd_ne (ne_of_none hc nZ)]
      exact s2 _ _ (s1 _ _ hc)
    · rw [List.map_append]
      exact upd_same
    · rw [List.length_append, hn]
      rfl
    · intro c hc
      rcases List.mem_append.mp hc with h | h
      · obtain ⟨h1, h2⟩ := hr c h
        exact ⟨by rw [upd_ne h2]; exact s2 _ _ h1, h2⟩
      · cases List.mem_singleton.mp h
        have ne : r ≠ Z := (ne_of_none hZ nr).symm
        rw [hq2] at R
        exact ⟨by rw [upd_ne ne]; exact R, ne⟩
  · rintro H1 ⟨rs, s1, hZ, hn, hr⟩
    match rs, hn with
    | [p1, p2, p3], _ =>
      obtain ⟨h1, _⟩ := hr p1 (by simp)
      obtain ⟨h2, _⟩ := hr p2 (by simp)
      obtain ⟨h3, _⟩ := hr p3 (by simp)
      refine ⟨Nat.zero_le _, fun u nu nsu => ⟨(by show 1 ≤ sizeLine; decide), fun v nv nsv => ⟨v, 3, [.ref u], rfl, rfl, upd_same, by simp, by decide, by decide, (by show 1 ≤ 1000; decide), fun y ny nsy => ?_⟩⟩⟩
      have s2 := same_new (o := .lst []) nu
      have s3 := same_new (o := .lst [.ref u]) nv
      have s4 := same_new (o := .lst (List.replicate (3 : Int).toNat [V.ref u]).flatten) ny
      have s5 := (s2.trans s3).trans s4
      have hu := (s3.trans s4) _ _ (upd_same (a := u) (o := .lst []))
      have dd : ∀ {H : Hp} {l q1 q2 q3 : Addr}, H l = some (.lst [.ref q1, .ref q2, .ref q3]) → H q1 = some (.lst []) → H q2 = some (.lst []) → H q3 = some (.lst []) → Dp K H (.ref l) (.list [.list [], .list [], .list []]) :=
        fun g g1 g2 g3 => .lst (SqL.of g) (.cons (dp_nil g1) (.cons (dp_nil g2) (.cons (dp_nil g3) .nil)))
      refine ⟨_, _, dd (s5 _ _ hZ) (s5 _ _ h1) (s5 _ _ h2) (s5 _ _ h3), dd upd_same hu hu hu, rfl, rfl, true, rfl, if_pos' ?_⟩
      have s6 := s1.trans s5
      refine ⟨_, h, l, _, _, _, rfl, rfl, SqL.of (s6 _ _ L), rfl, b, _, _, _, _, rfl, i2.same s6, (T.ek ("BadInput", ["EditionError"]) (by decide)).ex, .own _, kitN (q := ("BadInput", ["EditionError"])) (r := ("EditionError", [])) T (by decide) (by decide), true, by decide, if_pos' ?_⟩
      refine ⟨_, h, l, _, _, _, rfl, rfl, SqL.of (s6 _ _ L), rfl, b, _, _, _, _, rfl, i2.same s6, (T.ek ("BadInput", ["EditionError"]) (by decide)).ex, .own _, kitN (q := ("BadInput", ["EditionError"])) (r := qNo) T (by decide) (by decide), false, by decide, k _⟩
end
end K1

/-! K1LawG -/
set_option Elab.async false
set_option linter.all false
set_option maxRecDepth 100000
set_option maxHeartbeats 1000000
namespace K1
open PySem PySem.Spec PyProof.Rows L2 RV EV He EF EI Gd
def tOuter (K : PySem.W.Frag) : TS := tFor (iRng1 (tCons (tC (.int 4)) tNil)) (gName 2) (tSeq (tPar 3 4 (tCons (tCall spSome [] E0 (tCons (tVar 1) tNil)) (tCons (tCall spSome [] E0 (tCons (tVar 1) tNil)) tNil))) (tSeq (tRowsI K) (tSeq (tRowFor K) (tSeen K))))
def tLaw (K : PySem.W.Frag) : TS := tSeq (tAsg (tCall (spPen K) [] E0 (tCons (tVar 0) tNil)) (gName 1)) (tSeq (tOuter K) (tSeq (tRef K) (tSeq (tRefIf K) (tSeq (tBas K) (tFin K)))))
section
variable {P : Program} {w : World} {K : PySem.W.Frag} {mg : Str → Option Value} {base : Heap}
theorem outer_read {D : Ends} {σ : L2.St} {H : Hp} {p c : Addr} {cs : List Int} (T : KF P w K mg base) (len : σ.length = 15) (h1 : σ[1]? = some (some (.ref p))) (N : Pen H p c cs 0 0) (k : ∀ σ' H', σ'.length = 15 → D.nx σ' H') : tOuter K D σ H := by
  refine ⟨4, rfl, by decide, by decide, for_range (lo := 0) (n := (4 : Int).toNat) (fun i σ' H' => σ'.length = 15 ∧ σ'[1]? = some (some (.ref p)) ∧ ∃ b g, b ≤ 2 * (i : Int) ∧ Pen H' p c cs b g) ⟨len, h1, 0, 0, by decide, N⟩ ?_ (fun σ' H' z => k σ' H' z.1)⟩
  rintro i σ1 H1 hi ⟨l1, c1, b, g, hb, N1⟩
  have hi4 : i < 4 := hi
  refine ⟨_, by simp [c1], p, c, cs, b, g, rfl, N1, by omega, fun one d1 b1 g1 H2 m1 D1 hb1 N2 k1 => ⟨_, by simp [c1], p, c, cs, b1, g1, rfl, N2, by omega, fun two d2 b2 g2 H3 m2 D2 hb2 N3 k2 => ⟨one, two, rfl, ?_⟩⟩⟩
  have D1 := D1.past N2.pn k2 (dats_short _ m1)
  refine rows_read (one := one) (two := two) (by simp [l1]) (by simp [l1]) fun q e ts H4 s4 L E => ?_
  refine row_for (one := one) (two := two) (q := q) (e := e) T m1 m2 (D1.same s4) (D2.same s4) (by simp [l1]) (by simp [l1]) (by simp [l1]) (by simp [l1]) (by simp [l1]) L E fun σ' H5 e' s5 l5 c15 c35 c45 c55 c65 E5 => ?_
  refine seen_read (one := one) (two := two) (q := q) (e := e') m1 m2 (D1.same (s4.trans s5)) (D2.same (s4.trans s5)) l5 (by rw [c35]; simp [l1]) (by rw [c45]; simp [l1]) (by rw [c55]; simp [l1]) c65 (L.sameR s5) E5 fun H6 s6 => ?_
  exact ⟨l5, by rw [c15]; simp [c1], b2, g2, by rw [Int.natCast_add]; omega, N3.same (s4.trans (s5.trans s6))⟩
theorem law_read {Q : VK} {H : Hp} {a : Addr} {ns : List Int} (T : KF P w K mg base) (hS : SqL K H a (ns.map V.int)) (hl : ns.length ≤ 63) (k : ∀ H', Q (.bl true) H') : tLaw K { nx := fun _ H' => Q .non H', rt := Q } (L2.start scL_N [.ref a]) H := by
  refine ⟨_, by simp [L2.start], a, ns, rfl, hS, hl, fun p c cs H1 N s1 => ?_⟩
  refine outer_read (p := p) T (by simp [L2.start]) (by simp [L2.start]) N fun σ H2 len => ?_
  refine ref_read fun l a1 a2 a3 H3 s3 L i1 i2 i3 => ?_
  refine refif_read (l := l) T (by simp [len]) (by simp [len]) L i1 i2 i3 fun H4 s4 => ?_
  refine bas_read fun m b1 b2 b3 H5 s5 M j1 j2 j3 => ?_
  exact fin_read (l := m) T (by simp [len]) (by simp [len]) M j1 j2 j3 k
end
section
variable {P : Program} {w : World} {K : PySem.W.Frag} {mg : Str → Option Value} {base : Heap} {f : Addr} {fd : FuncData}
theorem ok_law (F : FnP K "law" sLaw f fd) (T : KF P w K mg base) (L : LF K mg) : FnG P w K mg base CX0 4 f fd ["_law_script"] (spLaw K) := by
  obtain ⟨f1, d1, F1, g1⟩ := L.pen
  obtain ⟨f2, d2, F2, g2⟩ := L.draw
  obtain ⟨f3, d3, F3, g3⟩ := L.pick
  obtain ⟨f4, d4, F4, g4⟩ := L.som
  obtain ⟨f5, d5, F5, g5⟩ := L.part
  obtain ⟨f6, d6, F6, g6⟩ := L.valu
  obtain ⟨f7, d7, F7, g7⟩ := L.name
  obtain ⟨f8, d8, F8, g8⟩ := L.kind
  obtain ⟨f9, d9, F9, g9⟩ := L.alon
  obtain ⟨f10, d10, F10, g10⟩ := L.two
  have G1 : FnOk P w K mg base CX0 1 f1 d1 ["_law_script"] (spPen K) := ok_pen F1 T.b
  have G4 : FnOk P w K mg base CX0 3 f4 d4 ["_law_pen_here"] spSome := ok_some F4 T.b F3 g3 F2 g2
  have G5 : FnOk P w K mg base CX0 3 f5 d5 ["_law_one", "_law_two"] (spRows K part) := ok_parted F5 T
  have G6 : FnOk P w K mg base CX0 3 f6 d6 ["_law_one", "_law_two"] (spRows K (valu ++ ats)) := ok_valued F6 T
  have G7 : FnOk P w K mg base CX0 3 f7 d7 ["_law_one", "_law_two"] (spRows K name) := ok_named F7 T
  have G8 : FnOk P w K mg base CX0 1 f8 d8 ["_law_error"] (spKinds K) := ok_kinds F8 T
  have G9 : FnOk P w K mg base CX0 2 f9 d9 ["_law_error"] (spAlone K) := ok_alone F9 T F8 g8
  have G10 : FnG P w K mg base CX0 3 f10 d10 ["_law_one", "_law_two"] spTwo := ok_two F10 T F9 g9 F8 g8
  have b1 : L2.Binds K d1 ["_law_script"] [] := F1.bindsN fun _ _ _ _ _ _ us hl => match us, hl with | [_], _ => rfl
  have b4 : L2.Binds K d4 ["_law_pen_here"] [] := F4.bindsN fun _ _ _ _ _ _ us hl => match us, hl with | [_], _ => rfl
  have b5 : L2.Binds K d5 ["_law_one", "_law_two"] [] := F5.bindsN fun _ _ _ _ _ _ us hl => match us, hl with | [_, _], _ => rfl
  have b6 : L2.Binds K d6 ["_law_one", "_law_two"] [] := F6.bindsN fun _ _ _ _ _ _ us hl => match us, hl with | [_, _], _ => rfl
  have b7 : L2.Binds K d7 ["_law_one", "_law_two"] [] := F7.bindsN fun _ _ _ _ _ _ us hl => match us, hl with | [_, _], _ => rfl
  have b8 : L2.Binds K d8 ["_law_error"] [] := F8.bindsN fun _ _ _ _ _ _ us hl => match us, hl with | [_], _ => rfl
  have b9 : L2.Binds K d9 ["_law_error"] [] := F9.bindsN fun _ _ _ _ _ _ us hl => match us, hl with | [_], _ => rfl
  have b10 : L2.Binds K d10 ["_law_one", "_law_two"] [] := F10.bindsN fun _ _ _ _ _ _ us hl => match us, hl with | [_, _], _ => rfl
  refine ofD F scL (fun vs H Q E h => ?_) (fun cdv A outer s H vs Q E hG hr h => ?_)
  · obtain ⟨a, ns, rfl, _⟩ := h
    rfl
  · obtain ⟨a, ns, rfl, hS, hl, k⟩ := h
    have r1 := hr.mono (show 1 ≤ 3 by decide)
    have r2 := hr.mono (show 2 ≤ 3 by decide)
    have hex : ∀ x ∈ plain, PySem.W.excIn K (ga K x) veBase "ValueError.__new__" = true := T.ex
    refine ⟨_, PSs.nox (pss_cons (ps_set (i := 1) scL.nd rfl (.inl rfl) (pe_call G1 r1 (by rfl) g1 F1.kp b1 .nil pass0 (pa_cons (pv 0) pa_nil)))
      (pss_cons (ps_for PassesOwn.never rfl (pi_range1 (by rfl) (T.fr "range" (by decide)) (pa_cons pe_int pa_nil)) (pg_name (i := 2) scL.nd rfl (.inl rfl))
        (pss_cons (ps_par (i := 3) (j := 4) (by rfl) scL.nd rfl rfl (by decide) rfl rfl (pa_cons (pe_call G4 hr (by rfl) g4 F4.kp b4 .nil pass0 (pa_cons (pv 1) pa_nil)) (pa_cons (pe_call G4 hr (by rfl) g4 F4.kp b4 .nil pass0 (pa_cons (pv 1) pa_nil)) pa_nil)) (by rfl))
        (pss_cons (ps_par (i := 5) (j := 6) (by rfl) scL.nd rfl rfl (by decide) rfl rfl (pa_cons (pe_op op_cat (pe_op op_cat (pe_call G5 hr (by rfl) g5 F5.kp b5 .nil pass0 (pa_cons (pv 3) (pa_cons (pv 4) pa_nil))) (pe_call G6 hr (by rfl) g6 F6.kp b6 .nil pass0 (pa_cons (pv 3) (pa_cons (pv 4) pa_nil))))
            (pe_call G7 hr (by rfl) g7 F7.kp b7 .nil pass0 (pa_cons (pv 3) (pa_cons (pv 4) pa_nil)))) (pa_cons (pe_lst pa_nil) pa_nil)) (by rfl))
        (pss_cons (ps_for PassesOwn.never rfl (pi_list (pv 5)) (pg_tup (n := 4) rfl (pgs_cons (pg_name (i := 7) scL.nd rfl (.inl rfl)) (pgs_cons (pg_name (i := 8) scL.nd rfl (.inl rfl)) (pgs_cons (pg_name (i := 9) scL.nd rfl (.inl rfl)) (pgs_cons (pg_name (i := 10) scL.nd rfl (.inl rfl)) pgs_nil)))))
          (pss_cons (ps_if (PW.pt (pw_or (pt_cmpR op_ne (pe_callB (call_repr hG hr.units) (by rfl) (T.fr "repr" (by decide)) PyProof.Rows.boot_repr (pa_cons (pe_lst1 (pa_cons (pv 8) (pa_cons (pv 10) pa_nil))) pa_nil))
                (pe_callB (call_repr hG hr.units) (by rfl) (T.fr "repr" (by decide)) PyProof.Rows.boot_repr (pa_cons (pe_lst1 (pa_cons (pv 3) (pa_cons (pv 4) pa_nil))) pa_nil)) (nomark _))
              (pw_or1 (pt_not (pt_val (pe_call G9 r2 (by rfl) g9 F9.kp b9 .nil pass0 (pa_cons (pv 7) pa_nil))))))) (pss_one (ps_ret pe_bl)) pss_nil)
          (pss_cons (ps_if (PW.pt (pw_or (pt_cmpR (op_neD hr.units) (pe_call G8 r1 (by rfl) g8 F8.kp b8 .nil pass0 (pa_cons (pv 7) pa_nil)) (pe_call G8 r1 (by rfl) g8 F8.kp b8 .nil pass0 (pa_cons (pv 9) pa_nil)) (nomark _))
              (pw_or1 (pt_cmpR op_ne (pe_isG (r := ("NoAnswer", ["EditionError"])) T (by decide) (by rfl) (by rfl) (by rfl) (pv 7)) (pe_is3 (x := ("Barred", bN)) (y := ("Undone", bN)) (z := ("Unlike", bN)) T (by decide) (by decide) (by decide) (by rfl) (by rfl) (by rfl) (by rfl) (by rfl) (by rfl) (by rfl) (pv 7)) (nomark _))))) (pss_one (ps_ret pe_bl)) pss_nil)
          (pss_one (ps_set (i := 6) scL.nd rfl (.inl rfl) (pe_op op_cat (pv 6) (pe_call G8 r1 (by rfl) g8 F8.kp b8 .nil pass0 (pa_cons (pv 7) pa_nil))))))))
        (pss_one (ps_if (PW.pt (pw_or (pt_cmpR (op_neD hr.units) (pe_callB cr_sortedI (by rfl) (T.fr "sorted" (by decide)) (by decide +kernel) (pa_cons (pe_lc (own := [("_law_number", 11)]) (g := gName 11) (tt := tYes) rfl scL.nd (pi_list (pv 6)) (blkOk_by (N := scL_N) (sc := defScope sLaw) (by decide +kernel))
                (fun _ _ _ _ _ => pg_name (i := 11) scL.nd rfl (.inl rfl)) (fun _ _ _ _ _ => pts_nil) (fun _ _ _ _ _ => pe_callTy call_int1 (by rfl) (T.fr "int" (by decide)) boot_int (pa_cons (pv 11) pa_nil))) pa_nil))
              (pe_listRg rfl (by rfl) (T.fr "list" (by decide)) (prg_1 (by rfl) (T.fr "range" (by decide)) (pe_callB call_len_seq (by rfl) T.b.len PySem.boot_len (pa_cons (pv 5) pa_nil)))) (nomark _))
            (pw_or1 (pt_not (pt_val (pe_callG G10 hr hG (by rfl) g10 F10.kp b10 pass0 (pa_cons (pv 3) (pa_cons (pv 4) pa_nil)))))))) (pss_one (ps_ret pe_bl)) pss_nil))))))
      (pss_cons (ps_set (i := 12) scL.nd rfl (.inl rfl) (pe_lst (pa_cons (pe_e1 (T.c1 ⟨"Barred", "clause", 28, false⟩ (by decide)) r2 pass0 (by rfl) pe_int) (pa_cons (pe_e1 (T.c1 ⟨"Undone", "at", 31, false⟩ (by decide)) r2 pass0 (by rfl) pe_int) (pa_cons (pe_e1 (T.c1 ⟨"Unlike", "part", 32, false⟩ (by decide)) r2 pass0 (by rfl) pe_int) pa_nil)))))
      (pss_cons (ps_if (PW.pt (pw_or (pt_cmpR (op_neD hr.units) (pe_lc (own := [("_law_error", 13)]) (g := gName 13) (tt := tNot (tB (tIsG K (tVar 13) ("NoAnswer", ["EditionError"])))) (te := tVar 13) rfl scL.nd (pi_list (pv 12)) (blkOk_by (N := scL_N) (sc := defScope sLaw) (by decide +kernel))
              (fun _ _ _ _ _ => pg_name (i := 13) scL.nd rfl (.inl rfl)) (fun _ _ _ _ _ => pts_one (pt_not (pt_val (pe_isG (r := ("NoAnswer", ["EditionError"])) T (by decide) (by rfl) (by rfl) (by rfl) (pv 13))))) (fun _ _ _ _ _ => pv 13)) (pe_lst pa_nil) (nomark _))
            (pw_or1 (pt_not (pt_val (pe_isG (r := ("BadInput", ["EditionError"])) T (by decide) (by rfl) (by rfl) (by rfl) (pe_e1 (T.c1 ⟨"Ring", "fix", 27, true⟩ (by decide)) r2 pass0 (by rfl) pe_int))))))) (pss_one (ps_ret pe_bl)) pss_nil)
      (pss_cons (ps_set (i := 14) scL.nd rfl (.inl rfl) (pe_lst (pa_cons (pe_exc1 PySem.F.excBase_ValueError (hex "EditionError" (by decide)) (T.gl ("EditionError", []) (by decide)) (T.ek ("EditionError", []) (by decide)).ox.kC (by rfl) pe_str)
          (pa_cons (pe_exc1 PySem.F.excBase_ValueError (hex "BadInput" (by decide)) (T.gl ("BadInput", ["EditionError"]) (by decide)) (T.ek ("BadInput", ["EditionError"]) (by decide)).ox.kC (by rfl) pe_str)
          (pa_cons (pe_exc1 PySem.F.excBase_ValueError (hex "NoAnswer" (by decide)) (T.gl ("NoAnswer", ["EditionError"]) (by decide)) (T.ek ("NoAnswer", ["EditionError"]) (by decide)).ox.kC (by rfl) pe_str) pa_nil)))))
      (pss_one (ps_ret (pe_and (pe_cmpR (op_eqD hr.units) (pe_lc (own := [("_law_error", 13)]) (g := gName 13) (tt := tYes) (te := tCall (spKinds K) [] E0 (tCons (tVar 13) tNil)) rfl scL.nd (pi_list (pv 14)) (blkOk_by (N := scL_N) (sc := defScope sLaw) (by decide +kernel))
              (fun _ _ _ _ _ => pg_name (i := 13) scL.nd rfl (.inl rfl)) (fun _ _ _ _ _ => pts_nil) (fun _ _ _ _ _ => pe_call G8 r1 (by rfl) g8 F8.kp b8 .nil pass0 (pa_cons (pv 13) pa_nil))) (pe_op op_mulL (pe_lst1 (pa_cons (pe_lst1 pa_nil) pa_nil)) pe_int) (nomark _))
          (pe_and (pe_isG (r := ("EditionError", [])) T (by decide) (by rfl) (by rfl) (by rfl) (pe_ix ix_list (pv 14) pe_int (fun _ _ => rfl)))
            (pe_one (pe_not (pe_isG (r := ("NoAnswer", ["EditionError"])) T (by decide) (by rfl) (by rfl) (by rfl) (pe_ix ix_list (pv 14) pe_int (fun _ _ => rfl)))))))))))))), ?_⟩
    exact law_read T hS hl k
end
end K1

/-! K1End -/
set_option Elab.async false
set_option linter.all false
set_option maxRecDepth 100000
set_option maxHeartbeats 0
namespace K1
open PySem PySem.Spec PyProof.Rows L2 RV EV He EF EI Gd
theorem defs_at {K : PySem.W.Frag} {h : Heap} {mg : Str → Option Value} (X : K.In h) (G : h.Ns mainGlobals mg) (c : SaysX ck fns K) : ∀ q ∈ defsN, ∃ fd, FnP K q.1 (top q.2) (ga K q.1) fd ∧ mg q.1 = some (.ref (ga K q.1)) := by
  intro q hq
  have hd : dF q.1 q.2 ∈ fns := List.mem_append_right _ (List.mem_map_of_mem (f := fun q : Str × Nat => dF q.1 q.2) hq)
  obtain ⟨fd, F⟩ := says_mem c hd
  have z : ck K = true := c.chk
  obtain ⟨z, _⟩ := ba z
  obtain ⟨_, zdf⟩ := ba z
  exact ⟨fd, F, PySem.W.mg_of X G (eqO_ok (List.all_eq_true.mp zdf q hq))⟩
theorem lf {K : PySem.W.Frag} {h : Heap} {mg : Str → Option Value} (X : K.In h) (G : h.Ns mainGlobals mg) (c : SaysX ck fns K) : LF K mg := by
  have g := defs_at X G c
  have one : ∀ (x : Str) (i : Nat), (x, i) ∈ defsN → ∃ f fd, FnP K x (top i) f fd ∧ mg x = some (.ref f) := fun x i hm => let ⟨fd, h1, h2⟩ := g (x, i) hm; ⟨_, fd, h1, h2⟩
  exact ⟨one "_law_pen" 34 (by decide), one "_law_draw" 35 (by decide), one "_law_pick" 36 (by decide), one "_law_some" 37 (by decide), one "_law_parted" 38 (by decide), one "_law_valued" 39 (by decide), one "_law_named" 40 (by decide),
    one "_law_kinds" 41 (by decide), one "_law_is_alone" 42 (by decide), one "_law_two_right" 43 (by decide)⟩
theorem facts {P : Program} {w : World} {K : PySem.W.Frag} {h : Heap} {mg : Str → Option Value} {f : Addr} (X : K.In h) (G : h.Ns mainGlobals mg) (hf : mg ("law" : Str) = some (.ref f)) (c : SaysX ck fns K) :
    ∃ fd : FuncData, (∀ (s : Shared) (v : Value), BindsTo s fd ⟨[v], []⟩ [("_law_script", v)]) ∧ ∀ base : Heap, K.In base → base.Ns mainGlobals mg → FnG P w K mg base CX0 4 f fd ["_law_script"] (spLaw K) := by
  obtain ⟨fd, F, e⟩ := defs_at X G c ("law", 44) (by decide)
  cases hf.symm.trans e
  have b := FunD.bindsA (ps := ["_law_script"]) F fun _ _ _ _ _ _ us hl => match us, hl with | [_], _ => rfl
  exact ⟨fd, fun s v => b s [v] rfl, fun base _ _ => ok_law F (kf X G c base) (lf X G c)⟩
end K1
open PySem PySem.W PySem.Calls PyProof.Rows
theorem PySem.Challenge.cw_editionlines_k01_errors_and_their_fields_holds : PySem.Challenge.rw_editionlines_k01_errors_and_their_fields.Holds := by
  w_on; o_law
  refine HandSHeadRun.head_any (r := OpenLaw.row PySem.Challenge.rw_editionlines_k01_errors_and_their_fields) (q := view (OpenLaw.row PySem.Challenge.rw_editionlines_k01_errors_and_their_fields).prog [44]) (H := K1.hk2) (ob := K1.ob2) (M := 9500) (loose := K1.loose) (d := HandSHeadRun.topDef (OpenLaw.row PySem.Challenge.rw_editionlines_k01_errors_and_their_fields).prog 44) (kwd := []) K1.ob2_eq
    (by kernel_rfl) (fun s => by kernel_rfl) K1.run2 (by kernel_rfl) (by kernel_rfl) (by kernel_rfl) (by rfl) (by first | assumption | decide +kernel) (by decide +kernel) ⟨rfl, rfl, rfl, rfl, rfl, by decide +kernel⟩ ?hw ?hc
  case hw => w_witness2
  case hc =>
    refine Gd.walkG (l := PySem.Challenge.rw_editionlines_k01_errors_and_their_fields) (n := 63) (k := 4) (x := "_law_script") rfl (by decide) (by kernel_rfl) ⟨rfl, by decide, by decide⟩ ?F (fun _ _ _ _ z => z)
    intro w mg fa h Y G hmg0
    obtain ⟨K, KX, c⟩ := Y
    have hmg : mg ("law" : PySem.Str) = some (.ref fa) := by
      have e : (HandSHeadRun.topDef (OpenLaw.row PySem.Challenge.rw_editionlines_k01_errors_and_their_fields).prog 44).name = ("law" : PySem.Str) := by kernel_rfl
      rw [← e]
      exact hmg0
    obtain ⟨fd, hb, hF⟩ := K1.facts (P := (PySem.Challenge.rw_editionlines_k01_errors_and_their_fields).prog) (w := w) KX G hmg c
    exact ⟨K, fd, K1.spLaw K, KX, hb, fun H a ns hl _ hS => ⟨a, ns, rfl, hS, hl, fun _ => rfl⟩, hF⟩
