import PyProof.Rows.All
import Wide.All
import OpenK.AllK
import Wide.FinOn
import KE.KStateDown
import HandS.ForMost
import HandS.Defaults
import HandS.Head0
import HandS.Head1
import HandS.Head2
import HandS.HeadEnd
import HandS.HeadHook1
import HandS.HeadHook2
import PySem.Challenge.RW_editionlines_k09_deeds_refused
import HandS.Exc
import HandS.ExcOwn
import HandS.ExcInit
import KE.KExcIs
import HandS.ExcValue
import HandS.ExcField
import HandS.IsInst
import HandS.ExcIs
import HandS.MakeKw
import HandS.MakeKwOnly
import HandS.Property
import HandS.Lambda
import HandS.EndTab
import HandS.HeadHook3
import HandS.HeadHook4
import HandS.HeadWalk
import HandS.HeadNt
import PyProof.ReprRoads
import HandS.TupMul
import HandS.Iter
import PyProof.Rows.FactsN_isinstance
import HandS.Walk
import HandS.Text
import PyProof.Rows.SeqGen
import HandS.More
import HandS.Star
import HandS.Flow
import KE.KCallOwn
import KE.KFmtOwn
import HandS.ClsMeth
import HandS.TupAny
import OpenK.KOps
import OpenK.KMeth
import PyProof.LookupFast
import PyProof.InstEq
import HandS.CallLocal
import KE.KStar
import HandS.ForExc
import HandS.TryMany
import HandS.TryOnly
import HandS.Nested
import HandS.RaiseMore
import HandS.Ends
import HandS.New0
import HandS.EndBits
import HandS.NestedK
import HandS.Words
import HandS.WordsExc
set_option Elab.async false
set_option linter.all false
set_option maxRecDepth 100000
set_option maxHeartbeats 0
namespace K9
open PySem PySem.Spec PyProof.Rows L2
abbrev prog : Program := PySem.Challenge.pw_editionlines_k09_deeds_refused
def top (i : Nat) : Stmt := prog.main.body.getD i (.Pass ⟨0, 0, 0, 0⟩)
end K9
set_option Elab.async false
set_option linter.all false
set_option maxRecDepth 100000
set_option maxHeartbeats 4000000
/-! An own exception class over ValueError, called with keywords: at the library's level. -/
namespace EKw
open PySem PySem.HandSPX Builtin Builtin.ObjectAttr
section
variable {M : Model} {prog : Program} {w : World} {A : Around} {E : Value → Shared → Prop}
  {R : Result → Shared → Prop} {hp : Heap} {gs : Array GenState} {dr : Drawn} {tk : Nat} {os : OsState}
variable {nm q : Str} {C N : Addr} {bs bm : List Value} {hdct : Bool} {sn : List Str} {sub : List Value}
  {ab : Bool} {col : Option Bool} {dd : Option Addr} {k0 k1 k2 k3 k5 : Option Value}
abbrev clsO (nm q : Str) (C N : Addr) (bs bm : List Value) (hdct : Bool) (sn : List Str) (sub : List Value)
    (ab : Bool) (col : Option Bool) (dd : Option Addr) (k0 k1 k2 k3 k5 : Option Value) : Obj :=
  excClassObj nm q C N bs bm hdct sn sub ab col dd k0 k1 k2 k3 k5 "ValueError.__new__"
theorem checkNewKw (hbm : refsVE bm = true) {us : List Value} {kw : List (Str × Value)} {Q : Unit → Shared → Prop}
    (hC : hp.get? C = some (clsO nm q C N bs bm hdct sn sub ab col dd k0 k1 k2 k3 k5)) (hq : Q () ⟨hp, gs, dr, tk, os⟩) :
    wpAny M A (checkBuiltinCall "ValueError.__new__" ⟨.ref C :: us, kw⟩) Q E ⟨hp, gs, dr, tk, os⟩ := by
  have e1 : (Value.ref C :: bm).contains (.type "ValueError") = true := by
    rw [List.contains_cons, refsVE_contains _ bm hbm]; simp
  have e2 := F.excBase_ValueError.noStar
  simp only [checkBuiltinCall, F.excBase_ValueError.newKind, F.excBase_ValueError.newSplit, F.excBase_ValueError.newRow]
  repeat (first
    | refine wpAny_loadPart_at hC ?_
    | (refine wpAny_isSubtype_exc hC ?_; rw [e1])
    | refine wpAny_staticBase_exc hC ?_
    | refine wpAny_madeBy_exc hC ?_
    | simp only [bne_self_eq_false, Bool.false_eq_true, if_false]
    | wp_step)
  all_goals exact hq
theorem newKw (hbm : refsVE bm = true) {us : List Value} {kw : List (Str × Value)}
    (hC : hp.get? C = some (clsO nm q C N bs bm hdct sn sub ab col dd k0 k1 k2 k3 k5)) (hz : us.length ≤ sizeLine)
    (hq : R (.ok (.ret (.ref (hp.objs.size + 1)))) ⟨(hp.push (W.kdv_tup us)).push (excO C hp.objs.size), gs, dr, tk, os⟩) :
    codeAny (model prog w) A (.builtin "ValueError.__new__" ⟨.ref C :: us, kw⟩) R ⟨hp, gs, dr, tk, os⟩ := by
  have e0 := F.excBase_ValueError.ends
  have has : ∀ X : String, (Value.ref C :: bm).contains (.type X) = veTail.contains (.type X) := fun X => by
    rw [List.contains_cons, refsVE_contains _ bm hbm]
    rfl
  have e1 := (has "ValueError").trans (by decide : _ = true)
  have e2 := (has "AttributeError").trans (by decide : _ = false)
  have e3 := (has "NameError").trans (by decide : _ = false)
  refine codeAny_builtinAt F.excBase_ValueError.entry ?_
  unfold Builtin.«BaseException.__new__»
  refine wpAt_bind ?_
  show wpAt _ _ _ (stack >>= _) _ _ _
  refine wpAt_bind (wpAt_stack fun p below => wpAt_of_wpAny ?_)
  wp_walk
  refine wpAt_of_wpAny ?_
  rw [F.excBase_ValueError.owner]
  repeat (first
    | with_reducible refine wpAny_madeHere_exc F.excBase_ValueError.canon hC ?_
    | with_reducible refine wpAny_loadPart_at hC ?_
    | (with_reducible refine wpAny_isSubtype_exc hC ?_; first | rw [e1] | rw [e2] | rw [e3])
    | wp_step)
  show R _ _
  rw [Heap.size_push]
  exact hq
theorem typeCallKw (hbm : refsVE bm = true) {us : List Value} {kw : List (Str × Value)} {fI : Addr} {Q : Fin → Shared → Prop}
    (hC : hp.get? C = some (clsO nm q C N bs bm hdct sn sub ab col dd k0 k1 k2 k3 k5))
    (hi : W.Looks (model prog w) hp (typeLookup (.ref C) "__init__") (some (.ref fI)))
    (hb : ∀ self, W.Looks (model prog w) hp (bindSpecial (.ref fI) self) (.ref fI, [self])) (hz : us.length ≤ sizeLine)
    (hq : codeAny (model prog w) A (.call (.ref fI) ⟨.ref (hp.objs.size + 1) :: us, kw⟩)
      (fun r s' => match r with
        | .ok (.ret v) => v = .none ∧ Q (.done (.ret (.ref (hp.objs.size + 1)))) s'
        | .ok _ => False
        | .error e => E e s')
      ⟨(hp.push (W.kdv_tup us)).push (excO C hp.objs.size), gs, dr, tk, os⟩) :
    wpAny (model prog w) A (Builtin.«type.__call__» ⟨.ref C :: us, kw⟩) Q E ⟨hp, gs, dr, tk, os⟩ := by
  repeat (first
    | with_reducible refine wpAny_loadPart_at hC ?_
    | with_reducible refine wpAny_madeBy_exc hC ?_
    | wp_step)
  refine codeAny_call_builtin_code (Code.quiet_builtin _ F.excBase_ValueError.quiet) (checkNewKw hbm hC ?_)
  refine newKw hbm hC hz ?_
  show wpAny _ _ _ _ _ _
  have kk : ∀ b o, hp.get? b = some o → ((hp.push (W.kdv_tup us)).push (excO C hp.objs.size)).get? b = some o :=
    fun b o e => Heap.get?_push_of_some _ (Heap.get?_push_of_some _ e)
  have hC2 := kk _ _ hC
  have hnew : ((hp.push (W.kdv_tup us)).push (excO C hp.objs.size)).get? (hp.objs.size + 1) = some (excO C hp.objs.size) := by
    heap_get
  have hself : (Value.ref C :: bm).contains (.ref C) = true := by simp
  have i2 := hi.keeps kk
  have b2 := (hb (.ref (hp.objs.size + 1))).keeps kk
  unfold isInstance
  repeat (first
    | with_reducible refine wpAny_loadPart_at hnew ?_
    | (with_reducible refine wpAny_isSubtype_exc hC2 ?_; rw [hself])
    | wp_step)
  show wpAny _ _ (typeLookup (.ref C) _) _ _ _
  refine i2.at (wpAny_holding (wpAny_bind (b2.at ?_)))
  refine wpAny_bind (wpAny_call (codeAny_mono hq fun r s' z => ?_))
  rcases r with e | (v | _ | _ | _) <;> first
    | exact z
    | exact z.elim
    | (obtain ⟨rfl, z⟩ := z; first
        | exact wpAny_pure (wpAny_pure z)
        | (wp_walk; exact z))
theorem callKw (hbm : refsVE bm = true) {us : List Value} {kw : List (Str × Value)} {fI : Addr}
    (hC : hp.get? C = some (clsO nm q C N bs bm hdct sn sub ab col dd k0 k1 k2 k3 k5))
    (hi : W.Looks (model prog w) hp (typeLookup (.ref C) "__init__") (some (.ref fI)))
    (hb : ∀ self, W.Looks (model prog w) hp (bindSpecial (.ref fI) self) (.ref fI, [self])) (hz : us.length ≤ sizeLine)
    (hq : codeAny (model prog w) (A.under (.builtin "type.__call__" ⟨.ref C :: us, kw⟩)) (.call (.ref fI) ⟨.ref (hp.objs.size + 1) :: us, kw⟩)
      (W.InitBack (hp.objs.size + 1) R) ⟨(hp.push (W.kdv_tup us)).push (excO C hp.objs.size), gs, dr, tk, os⟩) :
    codeAny (model prog w) A (.call (.ref C) ⟨us, kw⟩) R ⟨hp, gs, dr, tk, os⟩ := by
  have f1 := tc_lookup
  have f2 := tc_bind (.ref C)
  have hTy : (⟨hp, gs, dr, tk, os⟩ : Shared).TypeIs (.ref C) "type" := ⟨_, hC, rfl⟩
  refine codeAny_of_tree ?_
  show wpAny _ _ (callAny (.ref C) _) _ _ _
  repeat (any_goals (first
    | assumption
    | with_reducible refine wpAny_loadPart_at hC ?_
    | wp_step))
  refine ⟨rfl, ?_⟩
  refine codeAny_call_builtin_at (Code.quiet_builtin _ (by decide +kernel)) entry_typeCall
    (wpAny_check_type_call_sub hC (typeCallKw hbm hC hi hb hz ?_))
  refine codeAny_mono hq fun r s' z => ?_
  rcases r with e | (v | _ | _ | _) <;> exact z
end
end EKw
set_option Elab.async false
set_option linter.all false
set_option maxRecDepth 100000
set_option maxHeartbeats 4000000
/-! Own exceptions (over ValueError, with an __init__ of their own) held as values: made, their fields read, asked by isinstance. -/
namespace EV
open PySem PySem.Spec PyProof.Rows L2
/-- an error of the class at C stands at a; its dict at d holds fs -/
structure ErrAt (H : Hp) (a C d : Addr) (fs : List (Str × V)) : Prop where
  ob : H a = some (exo a C (some d))
  dc : H d = some (exd d fs)
/-- C(..), the class's own __init__ keeping sp, handed the values vs -/
def tErr (C : Addr) (sp : Sp) (gV : List V → List V) (E : XK) (t : TA) : TE := fun σ H Q => t σ H fun vs H1 => vs.length ≤ 1000 ∧
  ∀ a, H1 a = none → sp (.ref a :: gV vs) (upd H1 a (exo a C none)) (fun v H2 => v = .non ∧ Q (.ref a) H2) E
section
variable {X : Cx} {CX : CXT} {k n : Nat} {fI C : Addr} {fd : FuncData} {ps ks : List Str} {sp : Sp} {E : XK} {x : Str}
  {p pos : Pos} {e : Expr} {es : List Expr} {kws : List Keyword} {t tk : TA}
theorem run_err {pins : List (Addr × Obj)} {σ : L2.St} {H : Hp} {s : Shared} {Q : VK} {us bs : List Value} {kw : List (Str × Value)} {vs : List V}
    (T : OexC X.K C) (iC : PySem.W.findIn X.K (.ref C) "__init__" = some (some (.ref fI)))
    (tI : PySem.W.typeIn X.K (.ref fI) = some (.type "function"))
    (F1 : FnOk X.prog X.w X.K X.mg X.base CX k fI fd ps sp) (hr : Room (k + 1) X.A)
    (hb : ∀ (s' : Shared) (a : Addr), X.K.In s'.heap → BindsTo s' fd ⟨.ref a :: us, kw⟩ (ps.zip (.ref a :: bs)))
    (hx : Passes CX X E) (I : Inv X pins σ H s) (r : Vals vs bs) (hz : us.length ≤ sizeLine)
    (h : ∀ a, H a = none → sp (.ref a :: vs) (upd H a (exo a C none)) (fun v H2 => v = .non ∧ Q (.ref a) H2) E) :
    wpAny (model X.prog X.w) X.A (call (.ref C) us kw) (EP X pins σ Q) X.xe s := by
  obtain ⟨nm, q, N, bbs, bm, sn, sub, ab, col, dd, k0, k1, k2, k3, k5, hC, hbm⟩ := T.cls
  obtain ⟨hp, g, dr, tk, os⟩ := s
  have hsz : hp.objs.size ≤ hp.objs.size + 1 := Nat.le_succ _
  have hq := h (hp.objs.size + 1) (I.hok.fresh hsz)
  have kk : ∀ b o, hp.get? b = some o → ((hp.push (PySem.W.kdv_tup us)).push (PySem.HandSPX.excO C hp.objs.size)).get? b = some o :=
    fun b o z => Heap.get?_push_of_some _ (Heap.get?_push_of_some _ z)
  have hget : ((hp.push (PySem.W.kdv_tup us)).push (PySem.HandSPX.excO C hp.objs.size)).get? (hp.objs.size + 1) = some (PySem.HandSPX.excO C hp.objs.size) := by
    heap_get
  have I2 := I.laid (t' := tk) (a := hp.objs.size + 1) (o := exo (hp.objs.size + 1) C none) kk hsz (exo_ok hget)
  have r2 : Vals (V.ref (hp.objs.size + 1) :: vs) (Value.ref (hp.objs.size + 1) :: bs) := .cons rfl r
  refine wpAny_call (EKw.callKw hbm (I.kIn _ _ hC) (PySem.W.looks_findIn I.kIn iC) (fun self => PySem.W.bind_fn I.kIn self tI) hz
    (codeAny_mono (F1.run _ X.stack _ _ ⟨Value.ref (hp.objs.size + 1) :: us, kw⟩ _ _ _ E (hr.make C us kw)
      (I2.env0.make C us kw) (hb _ _ I2.kIn) r2 hq) fun r s' hq' => ?_))
  cases r with
  | error er => exact hx pins σ _ _ er s' I2 hq'
  | ok fl =>
    cases fl with
    | ret u =>
      obtain ⟨v, H', I3, rv, ev, q3⟩ := I2.after hq'
      subst ev
      exact ⟨rv, V.ref (hp.objs.size + 1), H', I3, rfl, q3⟩
    | _ => exact False.elim hq'
/-- C(e, ..) -/
theorem pe_err (T : OexC X.K C) (iC : PySem.W.findIn X.K (.ref C) "__init__" = some (some (.ref fI)))
    (tI : PySem.W.typeIn X.K (.ref fI) = some (.type "function"))
    (F1 : FnOk X.prog X.w X.K X.mg X.base CX k fI fd ps sp) (hr : Room (k + 1) X.A) (hb : Binds X.K fd ps []) (hx : Passes CX X E)
    (hg : Gl X x) (hm : X.mg x = some (.ref C)) (ha : PA X (e :: es) t)
    (hdb : (x == ("__debug__" : Str)) = false := by decide)
    (he : starEach (e :: es) X.env = (false, eval e X.env) :: starEach es X.env := by rfl)
    (hpl : (backTo pos (starEach es X.env)).any (·.1) = false := by rfl) :
    PE X (.Call (.Name x p) (e :: es) [] pos) (tErr C sp (fun vs => vs) E t) := by
  refine ⟨fun pins s σ H Q I h => ?_⟩
  refine wpAny_Call_Name_kw (ld_glob I hg hm ?_ hdb)
  refine PySem.W.callWith_K (h₀ := X.base) I.ok.mod.kin T.kC (thn (ha.run pos pins s σ H _ I h) fun us s1 ⟨vs, H1, I1, r1, hz, q1⟩ => ⟨I1.kIn, ?_⟩) he hpl
  show wpAny _ _ (call (.ref C) us) _ _ _
  have hl : vs.length = us.length := r1.length
  refine run_err T iC tI F1 hr (fun s' a X' => ?_) hx I1 r1 ?_ q1
  · have hn := F1.len _ _ _ _ (q1 _ (I1.hok.fresh (Nat.le_refl _)))
    have z := hb s' (.ref a :: us) X' (by
      rw [List.append_nil, ← hn, List.length_cons, List.length_cons, hl])
    rw [List.append_nil] at z
    exact z
  · rw [← hl, sizeLine_eq]
    omega
/-- C(f = e, ..), no argument by position -/
theorem pe_errK {g : List Value → List Value → List Value} {gV : List V → List V → List V} (T : OexC X.K C)
    (iC : PySem.W.findIn X.K (.ref C) "__init__" = some (some (.ref fI)))
    (tI : PySem.W.typeIn X.K (.ref fI) = some (.type "function"))
    (F1 : FnOk X.prog X.w X.K X.mg X.base CX k fI fd ps sp) (hr : Room (k + 1) X.A) (hx : Passes CX X E)
    {gk : List Value → List Value} {gv : List V → List V}
    (hb : ∀ (s' : Shared) (a : Addr) (ws : List Value), X.K.In s'.heap → ws.length = ks.length → BindsTo s' fd ⟨[.ref a], ks.zip ws⟩ (ps.zip (.ref a :: gk ws)))
    (hgv : ∀ {zs : List V} {ws : List Value}, zs.length = ks.length → Vals zs ws → Vals (gv zs) (gk ws))
    (hg : Gl X x) (hm : X.mg x = some (.ref C)) (hkw : PK X kws tk)
    (hall : (backToKw pos (keywordEach kws X.env)).all (·.1.isSome) = true := by rfl)
    (hks : (backToKw pos (keywordEach kws X.env)).filterMap (·.1) = ks := by rfl)
    (hdb : (x == ("__debug__" : Str)) = false := by decide)
    (hpl : ((backTo pos (starEach [] X.env)).any (·.1) || (backToKw pos (keywordEach kws X.env)).any (·.1.isNone)) = false := by rfl) :
    PE X (.Call (.Name x p) [] kws pos) (fun σ H Q => tk σ H fun zs H1 => zs.length = ks.length ∧
      ∀ a, H1 a = none → sp (.ref a :: gv zs) (upd H1 a (exo a C none)) (fun v H2 => v = .non ∧ Q (.ref a) H2) E) := by
  refine ⟨fun pins s σ H Q I h => ?_⟩
  refine wpAny_Call_Name_kw (ld_glob I hg hm ?_ hdb)
  refine PySem.W.callWith_KW0 (h₀ := X.base) I.ok.mod.kin T.kC hall ?_ hpl
  refine thn (hkw.run pos pins s σ H _ I h) fun ws s2 ⟨zs, H2, I2, rz, l2, q2⟩ => ⟨I2.kIn, ?_⟩
  rw [hks]
  have hl : zs.length = ws.length := rz.length
  exact run_err T iC tI F1 hr (fun s' a X' => hb s' a ws X' (by rw [← hl, l2])) hx I2 (hgv l2 rz) (Nat.zero_le _) q2
end
/-! ### a field is read -/
def tEf (K : PySem.W.Frag) (te : TE) (f : Str) : TE := fun σ H Q => te σ H fun x H1 => ∃ a C d fs v, x = .ref a ∧ ErrAt H1 a C d fs ∧ XfC K C ∧
  PySem.W.findIn K (.ref C) f = some none ∧ fs.lookup f = some v ∧ Q v H1
theorem inst_of {X : Cx} {pins : List (Addr × Obj)} {σ : L2.St} {H : Hp} {s : Shared} {a C d : Addr} {fs : List (Str × V)} (I : Inv X pins σ H s) (r : ErrAt H a C d fs) :
    ∃ (ox od : Obj) (mA : Str → Option Value), PySem.W.InstAt s.heap a ox C (some od) ∧ s.heap.get? d = some od ∧ (∀ n, PySem.W.lookIn n od = some (mA n)) ∧ ∀ n, RelO (fs.lookup n) (mA n) := by
  obtain ⟨t1, ha⟩ := exo_at I.hok r.ob
  obtain ⟨mA, hns, rel⟩ := exd_at I.hok r.dc
  obtain ⟨od, ho, hl⟩ := lookIn_ns hns
  exact ⟨_, od, mA, ⟨ha, rfl, rfl, ho⟩, ho, hl, rel⟩
theorem pe_ef {X : Cx} {e : Expr} {te : TE} {pos : Pos} {f : Str} (he : PE X e te) (hb : attributeBase e f X.env (eval e X.env) = eval e X.env := by rfl) :
    PE X (.Attribute e f pos) (tEf X.K te f) := by
  refine ⟨fun pins s σ H Q I h => ?_⟩
  refine attr_of hb (thn (he.run pins s σ H _ I h) fun u s1 hh => ?_)
  obtain ⟨x, H1, I1, rx, a, C, d, fs, v, ex, r, T, hno, l, q⟩ := hh
  subst ex
  obtain rfl : u = Value.ref a := rx
  obtain ⟨ox, od, mA, J, ho, hl, rel⟩ := inst_of I1 r
  obtain ⟨w, hw, rw'⟩ := RelO.some_of (v := v) (o := mA f) (by rw [← l]; exact rel f)
  exact HandSPX.exc_get I1.kIn J T.ga T.gg T.exC (PySem.W.findObj_own T.hdC hno rfl (by rw [hl, hw])) (handed_of rw') ⟨v, H1, I1.tok _, rw', q⟩
/-! ### isinstance -/
/-- an error of the class at C: with an own dict, or without -/
def IsErr (H : Hp) (a C : Addr) : Prop := (∃ d fs, ErrAt H a C d fs) ∨ H a = some (ExO (.ref C) a)
theorem kit_err {X : Cx} {pins : List (Addr × Obj)} {σ : L2.St} {H : Hp} {s : Shared} {a C : Addr} (I : Inv X pins σ H s) (r : IsErr H a C) (T : L2.ExcC X.K C) :
    ∃ P : Heap → Prop, PySem.W.KitX X.K (.ref a) (.ref C) P ∧ P s.heap := by
  have hcl : (PySem.W.clsIn X.K C).isSome = true := by
    obtain ⟨cd, hc, _⟩ := PySem.W.any_some T.hd
    rw [hc]
    rfl
  rcases r with ⟨d, fs, r⟩ | r
  · obtain ⟨ox, od, mA, J, _⟩ := inst_of I r
    exact ⟨_, PySem.W.kitx_exc hcl T.hg T.hk T.hs T.ha T.hn T.ht T.hm, J⟩
  · obtain ⟨⟨oe, vs, ho, hz, hd, _⟩, _, _⟩ := I.hok a _ r
    refine ⟨_, PySem.W.kitx_exc (ox := oe) (od := none) hcl T.hg T.hk T.hs T.ha T.hn T.ht T.hm, ?_⟩
    obtain ⟨oc, od, oda, osl⟩ := oe
    obtain ⟨h1, h2⟩ := hz
    dsimp only at h1 h2 hd
    subst h1 h2 hd
    exact ⟨ho, rfl, rfl, trivial⟩
def rIsErr (K : PySem.W.Frag) : List V → Hp → VK → Prop := fun xs H Q => ∃ (a C : Addr) (c : V) (u : Value) (b : Bool), xs = [.ref a, c] ∧ IsErr H a C ∧ L2.ExcC K C ∧ ClsV c u ∧
  PySem.W.kitOne K (.ref C) u = some b ∧ Q (.bl b) H
def rIsErrT (K : PySem.W.Frag) : List V → Hp → VK → Prop := fun xs H Q => ∃ (a C tp : Addr) (cs : List V) (us : List Value) (b : Bool), xs = [.ref a, .ref tp] ∧ IsErr H a C ∧ L2.ExcC K C ∧
  H tp = some (.tup cs) ∧ Paired ClsV cs us ∧ PySem.W.kitAny K (.ref C) us = some b ∧ Q (.bl b) H
theorem call_isErr {X : Cx} : CallR X (.builtin "isinstance") (rIsErr X.K) := by
  intro pins s σ H xs us Q I r h
  obtain ⟨a, C, c, u, b, rfl, hi, T, k, e, q⟩ := h
  obtain ⟨u1, u2, rfl, r1, r2⟩ := vals2 r
  have e2 := k.eq r2
  subst e2
  cases (show u1 = Value.ref a from r1)
  obtain ⟨P, Z, p⟩ := kit_err I hi T
  exact PySem.W.kia_one Z I.kIn p e (fun z => nomatch z) fun tk => ⟨.bl b, H, I.tok tk, rfl, q⟩
theorem call_isErrT {X : Cx} : CallR X (.builtin "isinstance") (rIsErrT X.K) := by
  intro pins s σ H xs us Q I r h
  obtain ⟨a, C, tp, cs, ws, b, rfl, hi, T, hT, k, e, q⟩ := h
  obtain ⟨u1, u2, rfl, r1, r2⟩ := vals2 r
  cases (show u1 = Value.ref a from r1)
  cases (show u2 = Value.ref tp from r2)
  obtain ⟨P, Z, p⟩ := kit_err I hi T
  obtain ⟨_, its, rv, o, h1, h2, n, h3⟩ := (show ObjOk X.prog X.w H s.heap tp (.tup cs) from I.hok tp _ hT)
  have e3 := ClsV.all k rv
  subst e3
  obtain ⟨oc, od, dt, sl⟩ := o
  simp only at h2 h3
  subst h2 h3
  exact PySem.W.kia_tup Z I.kIn p h1 e (fun z => nomatch z) fun tk => ⟨.bl b, H, I.tok tk, rfl, q⟩
end EV
set_option Elab.async false
set_option linter.all false
set_option maxRecDepth 100000
set_option maxHeartbeats 4000000
/-! What the written part must say of own exception classes, as one Bool; a Hook by any Bool. -/
namespace EF
open PySem PySem.Spec PyProof.Rows L2 EV He
abbrev veT : List Value := [.type "ValueError", .type "Exception", .type "BaseException", .type "object"]
def clsShape (K : PySem.W.Frag) (C : Addr) (bm : List Value) : Bool := match K.lookup C with
  | some ⟨.type "type", _, .cls cd, sl⟩ => decide (cd.mro = .ref C :: bm) && (cd.hasDict && (!cd.hasDel && (match sl.toList with
    | [_, _, _, _, some (.builtin n), _] => n == "ValueError.__new__"
    | _ => false)))
  | _ => false
theorem clsShape_ok {K : PySem.W.Frag} {C : Addr} {bm : List Value} (h : clsShape K C bm = true) :
    ∃ nm q N bs sn sub ab col dd k0 k1 k2 k3 k5, K.lookup C = some (excClassObj nm q C N bs bm true sn sub ab col dd k0 k1 k2 k3 k5 "ValueError.__new__") := by
  unfold clsShape at h
  split at h
  · rename_i dd cd sl ho
    obtain ⟨h1, h⟩ := ba h
    obtain ⟨h2, h⟩ := ba h
    obtain ⟨h3, h4⟩ := ba h
    split at h4
    · rename_i k0 k1 k2 k3 n k5 hs
      obtain ⟨nm, bs, mro, ns, qn, hd, sn, sub, ab, col, del⟩ := cd
      have e1 : mro = .ref C :: bm := of_decide_eq_true h1
      have e2 : hd = true := h2
      have e3 : del = false := by simpa using h3
      have e4 : n = "ValueError.__new__" := beq_iff_eq.mp h4
      have e5 : sl = #[k0, k1, k2, k3, some (.builtin n), k5] := by
        obtain ⟨l⟩ := sl
        simp only at hs
        rw [hs]
      subst e1 e2 e3 e4 e5
      exact ⟨nm, qn, ns, bs, sn, sub, ab, col, dd, k0, k1, k2, k3, k5, ho⟩
    · cases h4
  · cases h
/-- the classes above x, own ones, then ValueError's -/
abbrev above (K : PySem.W.Frag) (bs : List Str) : List Value := bs.map (fun b => Value.ref (ga K b)) ++ veT
def errB (K : PySem.W.Frag) (x : Str) (bs : List Str) : Bool :=
  clsShape K (ga K x) (above K bs) && (eqO (PySem.W.findIn K (.ref (ga K x)) "__setattr__") (some (some (.builtin "object.__setattr__"))) &&
  (eqO (PySem.W.findIn K (.ref (ga K x)) "__getattribute__") (some (some (.builtin "BaseException.__getattribute__"))) &&
  (eqO (PySem.W.findIn K (.ref (ga K x)) "__getattr__") (some none) && (PySem.W.keepIn K (.ref (ga K x)) &&
  (eqO (PySem.W.findIn K (.ref (ga K x)) "__class__") (some (some (.builtin "object.__class__"))) && eqO (PySem.W.nsIn K mainGlobals x) (some (some (.ref (ga K x)))))))))
structure ErrK (K : PySem.W.Frag) (x : Str) (bs : List Str) : Prop where
  ox : OexC K (ga K x)
  xf : XfC K (ga K x)
  ex : L2.ExcC K (ga K x)
  hc : (PySem.W.clsIn K (ga K x)).isSome = true
  sub : ∀ v, PySem.W.subIn K (.ref (ga K x)) v = some ((Value.ref (ga K x) :: above K bs).contains v)
  nm : PySem.W.nsIn K mainGlobals x = some (some (.ref (ga K x)))
/-- what isinstance asks of every object -/
def objB (K : PySem.W.Frag) : Bool := eqO (PySem.W.specialIn K (.builtin "object.__class__") "__get__") (some (some (.builtin "getset_descriptor.__get__"))) && decide (PySem.W.takesIn K (.builtin "object.__class__") = some true)
theorem refs_above {K : PySem.W.Frag} (bs : List Str) : PySem.HandSPX.refsVE (above K bs) = true := by
  induction bs with
  | nil => exact (by decide : PySem.HandSPX.refsVE veT = true)
  | cons b bs ih => exact ih
theorem errB_ok {K : PySem.W.Frag} {x : Str} {bs : List Str} (h : errB K x bs = true) (ho : objB K = true) : ErrK K x bs := by
  obtain ⟨h1, h⟩ := ba h
  obtain ⟨h2, h⟩ := ba h
  obtain ⟨h3, h⟩ := ba h
  obtain ⟨h4, h⟩ := ba h
  obtain ⟨h5, h⟩ := ba h
  obtain ⟨h6, h7⟩ := ba h
  obtain ⟨o1, o2⟩ := ba ho
  obtain ⟨nm, q, N, bbs, sn, sub, ab, col, dd, k0, k1, k2, k3, k5, hC⟩ := clsShape_ok h1
  have hcl : PySem.W.clsIn K (ga K x) = some { name := nm, bases := bbs, mro := .ref (ga K x) :: above K bs, ns := N, qualname := q, hasDict := true, slotNames := sn, subclasses := sub, abstract := ab, collection := col, hasDel := false } := by
    unfold PySem.W.clsIn
    rw [hC] <;> rfl
  have hsub : ∀ v, PySem.W.subIn K (.ref (ga K x)) v = some ((Value.ref (ga K x) :: above K bs).contains v) := fun v => by
    show PySem.W.mroIn K (ga K x) v = _
    unfold PySem.W.mroIn
    rw [hcl]
    rfl
  have hbase : PySem.W.subIn K (.ref (ga K x)) (.type "BaseException") = some true := by
    rw [hsub, List.contains_cons, PySem.HandSPX.refsVE_contains _ _ (refs_above bs)]
    rfl
  have hobj : PySem.W.mroIn K (ga K x) (.type "object") = some true := by
    have e := hsub (.type "object")
    rw [List.contains_cons, PySem.HandSPX.refsVE_contains _ _ (refs_above bs)] at e
    exact e.trans rfl
  have hty : PySem.W.typeIn K (.ref (ga K x)) = some (.type "type") := by
    show (K.lookup (ga K x)).map (·.cls) = _
    rw [hC] <;> rfl
  have hd : PySem.W.hasDictIn K (ga K x) = true := by
    unfold PySem.W.hasDictIn
    rw [hcl] <;> rfl
  exact ⟨⟨⟨nm, q, N, bbs, above K bs, sn, sub, ab, col, dd, k0, k1, k2, k3, k5, hC, refs_above bs⟩, eqO_ok h2, hbase, hty, h5⟩,
    ⟨eqO_ok h3, eqO_ok h4, hbase, hd⟩, ⟨eqO_ok h3, eqO_ok h4, hbase, hd, eqO_ok h6, eqO_ok o1, of_decide_eq_true o2, hobj⟩, by rw [hcl]; rfl, hsub, eqO_ok h7⟩
theorem veT_ref (c : Addr) : veT.contains (.ref c) = false := by
  simp [List.contains_cons]
theorem contains_refs {K : PySem.W.Frag} (bs : List Str) (c : Addr) : (above K bs).contains (.ref c) = decide (c ∈ bs.map (ga K)) := by
  induction bs with
  | nil => exact (veT_ref c).trans (by simp)
  | cons b bs ih =>
    show (Value.ref (ga K b) :: above K bs).contains (.ref c) = _
    rw [List.contains_cons, ih]
    by_cases e : c = ga K b
    · subst e
      simp
    · have e2 : (Value.ref c == Value.ref (ga K b)) = false := by
        rw [beq_eq_false_iff_ne]
        intro z
        exact e (Value.ref.inj z)
      rw [e2]
      simp [e]
/-- isinstance of an error of the class x against the class y -/
theorem kit {K : PySem.W.Frag} {x y : Str} {bs cs : List Str} (X : ErrK K x bs) (Y : ErrK K y cs) :
    PySem.W.kitOne K (.ref (ga K x)) (.ref (ga K y)) = some (decide (ga K y = ga K x ∨ ga K y ∈ bs.map (ga K))) := by
  unfold PySem.W.kitOne
  by_cases e : ga K y = ga K x
  · rw [e, if_pos (by simp)]
    simp
  · have ne : (Value.ref (ga K x) == Value.ref (ga K y)) = false := by
      rw [beq_eq_false_iff_ne]
      intro z
      exact e (Value.ref.inj z).symm
    rw [ne, if_neg Bool.false_ne_true]
    unfold PySem.W.kitCls
    have t : ((PySem.W.clsIn K (ga K y)).isSome && PySem.W.typeIn K (.ref (ga K y)) == some (.type "type")) = true := by
      rw [Y.hc, Y.ox.tyC]
      rfl
    show (if ((PySem.W.clsIn K (ga K y)).isSome && PySem.W.typeIn K (.ref (ga K y)) == some (.type "type")) = true then _ else _) = _
    rw [if_pos t, X.sub, List.contains_cons, contains_refs]
    have e3 : (Value.ref (ga K y) == Value.ref (ga K x)) = false := by
      rw [beq_eq_false_iff_ne]
      intro z
      exact e (Value.ref.inj z)
    rw [e3, Bool.false_or]
    simp [e]
/-- .. against a built-in class -/
theorem kitT {K : PySem.W.Frag} {x : Str} {bs : List Str} (X : ErrK K x bs) {T : String} (hm : PySem.W.kitMeta T = true) :
    PySem.W.kitOne K (.ref (ga K x)) (.type T) = some (veT.contains (.type T)) := by
  unfold PySem.W.kitOne
  rw [if_neg (fun z => nomatch (beq_iff_eq.mp z : Value.ref _ = Value.type _))]
  show (if PySem.W.kitMeta T = true then PySem.W.subIn K (.ref (ga K x)) (.type T) else none) = _
  rw [if_pos hm, X.sub, List.contains_cons, PySem.HandSPX.refsVE_contains _ _ (refs_above bs)]
  rfl
/-! ### a Hook by a Bool -/
def obsX (ck : PySem.W.Frag → Bool) (fn : List DefD) (K : PySem.W.Frag) : AlD := (ck K && fn.all fun d => d.ok K, fn.map fun d => fnW K d.at_)
def SaysX (ck : PySem.W.Frag → Bool) (fn : List DefD) (K : PySem.W.Frag) : Prop := obsX ck fn K = valD fn
def obsXG (n : Nat) (ck : PySem.W.Frag → Bool) (fn : List DefD) (g : Addr → Option Obj) : AlD := obsX ck fn (frG g (asD g n))
def hookX (n : Nat) (ck : PySem.W.Frag → Bool) (fn : List DefD) : PySem.W.Hook where
  α := AlD
  obs := fun s => obsXG n ck fn s.heap.get?
  val := fun _ => valD fn
  says := fun _ h => ∃ K : PySem.W.Frag, K.In h ∧ SaysX ck fn K
  of := fun _ _ e => ⟨_, frG_in, e⟩
  keeps := fun _ _ _ ⟨K, hK, c⟩ k => ⟨K, PySem.W.Frag.In.keeps hK k, c⟩
theorem obsXG_eq {n : Nat} {ck : PySem.W.Frag → Bool} {fn : List DefD} {g : Addr → Option Obj} {s : Shared} (h : ∀ a, g a = s.heap.get? a) : obsXG n ck fn g = (hookX n ck fn).obs s := by
  rw [show g = s.heap.get? from funext h]
  rfl
section
variable {ck : PySem.W.Frag → Bool} {fn : List DefD} {K : PySem.W.Frag}
theorem SaysX.chk (c : SaysX ck fn K) : ck K = true := (ba (congrArg (fun z : AlD => z.1) c : (ck K && fn.all fun d => d.ok K) = true)).1
theorem SaysX.def_ (c : SaysX ck fn K) (i : Nat) {d : DefD} (h : fn[i]? = some d := by rfl) : ∃ fd, FunD K d.name d.qual d.params d.body d.scope (d.dvs K) (d.kws K) (fAd K d.at_) fd := by
  have c2 := (ba (congrArg (fun z : AlD => z.1) c : (ck K && fn.all fun d => d.ok K) = true)).2
  have e : fn.map (fun d => fnW K d.at_) = fn.map DefD.val := congrArg (fun z : AlD => z.2) c
  have e2 : (fn.map fun d => fnW K d.at_)[i]? = (fn.map DefD.val)[i]? := by rw [e]
  rw [List.getElem?_map, List.getElem?_map, h] at e2
  exact DefD.funD (Option.some.inj e2) (List.all_eq_true.mp c2 d (List.mem_of_getElem? h))
end
end EF
set_option Elab.async false
set_option linter.all false
set_option maxRecDepth 100000
set_option maxHeartbeats 4000000
/-! The facts of the row's head: classes, errors, defs, the tables of the defs that make lambdas. -/
namespace K9
open PySem PySem.Spec PyProof.Rows L2 He EF
abbrev R : PySem.W.OpenRow := PySem.W.OpenLaw.row PySem.Challenge.rw_editionlines_k09_deeds_refused
def bT : List Str := ["BadInput", "EditionError"]
def errsN : List (Str × List Str) := [("BadDeed", bT), ("BadFix", bT), ("NoDay", bT), ("NoLine", bT), ("BadInput", ["EditionError"]), ("EditionError", [])]
def freesN : List Str := ["int", "len", "abs", "list", "repr", "range", "isinstance", "ValueError", "LookupError", "bool", "str", "all", "tuple", "sorted", "enumerate", "dict"]
def topsN : List (Str × Nat) := [("is_integer", 4), ("is_within", 5), ("is_fix", 6), ("checked_fix", 16), ("checked_mate", 18), ("checked_lines", 20), ("checked_days", 21), ("is_stop", 22), ("line_stop", 23), ("day_stop", 24),
  ("_law_pen", 63), ("_law_draw", 64), ("_law_pick", 65), ("_law_heard", 66), ("_law_one_right", 67), ("_law_many_right", 68), ("law", 69)]
def deedN : List (Str × Nat) := [("__str__", 3), ("named", 5), ("stop", 6)]
def mkN : List (Str × Nat) := [("Fix", 43), ("Unfix", 44), ("Carry", 46), ("Drop", 47), ("Merge", 48), ("End", 49), ("Offer", 50), ("Live", 51), ("Down", 52), ("Day", 53), ("Try", 54), ("Probe", 55), ("Meet", 56), ("Rise", 57), ("Night", 58), ("Redo", 59), ("Renew", 60), ("Shut", 61)]
def noN : List (Str × Str) := [("Fix", "fix"), ("Unfix", "fix"), ("Carry", "fix"), ("Carry", "line"), ("Drop", "fix"), ("Drop", "line"), ("Merge", "line"), ("Merge", "upto"), ("End", "line"), ("Offer", "line"), ("Live", "line"), ("Down", "line"), ("Day", "line"), ("Try", "line"), ("Try", "mate"), ("Probe", "line"), ("Probe", "mate"), ("Meet", "line"), ("Meet", "mate"), ("Rise", "lines"), ("Rise", "upto"), ("Night", "lines"), ("Night", "upto"), ("Redo", "day"), ("Renew", "days"), ("Renew", "upto"), ("Shut", "day")]
/-- a method's statement -/
abbrev dSt (j : Nat) : Stmt := inClass (top 34) j
def dTop (q : Str × Nat) : DefD := ⟨(q.1, none), q.1, q.1, defArgs (top q.2), defBody (top q.2), defScope (top q.2), [], []⟩
def topsD : List (Str × Nat) := [("checked_line", 17), ("checked_day", 19)]
def dTopD (q : Str × Nat) : DefD := ⟨(q.1, none), q.1, q.1, defArgs (top q.2), defBody (top q.2), defScope (top q.2), [.int 1], []⟩
def dDeed (q : Str × Nat) : DefD := ⟨("Cut", some q.1), q.1, "Deed." ++ q.1, defArgs (dSt q.2), defBody (dSt q.2), defScope (dSt q.2), [], []⟩
/-- the defaults of an __init__ -/
def dfN (x : Str) : List Dv := if x = "Merge" then [.non] else []
def kwN (x : Str) : List (Str × Dv) := if x = "Rise" ∨ x = "Night" ∨ x = "Renew" then [("upto", .non)] else []
abbrev iSt (i : Nat) : Stmt := inClass (top i) 1
def dMk (q : Str × Nat) : DefD := ⟨(q.1, some "__init__"), "__init__", q.1 ++ ".__init__", defArgs (iSt q.2), defBody (iSt q.2), defScope (iSt q.2), dfN q.1, kwN q.1⟩
def dInitE (x : Str) (i : Nat) : DefD := ⟨(x, some "__init__"), "__init__", x ++ ".__init__", defArgs (inClass (top i) 0), defBody (inClass (top i) 0), defScope (inClass (top i) 0), [], []⟩
def iniN : List (Str × Nat × List Str) := [("BadDeed", 10, ["at"]), ("BadFix", 11, ["value"]), ("NoDay", 13, ["day"]), ("NoLine", 14, ["line"])]
def fns : List DefD := (topsN.map dTop) ++ (topsD.map dTopD) ++ (deedN.map dDeed) ++ (mkN.map dMk) ++ (iniN.map fun q => dInitE q.1 q.2.1)
def fas : List Fa := (freesN.map Fa.free) ++ (topsN.map fun q => Fa.glo q.1) ++ (topsD.map fun q => Fa.glo q.1) ++ (deedN.map fun q => Fa.meth "Cut" q.1) ++ (mkN.map fun q => Fa.glo q.1) ++ (mkN.map fun q => Fa.cls q.1) ++ (mkN.map fun q => Fa.mkr q.1) ++ (noN.map fun q => Fa.noat q.1 q.2) ++ [.glo "Cut", .cls "Cut", .keep "Cut", .int "LINES" 6, .int "DAYS" 200]
def tabN : List Defn := [("_law_one_right", none), ("_law_many_right", none), ("law", none)]
def iniE (K : PySem.W.Frag) (x : Str) (fs : List Str) : Bool := eqO (PySem.W.findIn K (.ref (ga K x)) "__init__") (some (some (.ref (ma K (ga K x) "__init__")))) && (decide (PySem.W.typeIn K (.ref (ma K (ga K x) "__init__")) = some (.type "function")) &&
  fs.all fun f => eqO (PySem.W.findIn K (.ref (ga K x)) f) (some none))
def exmB (K : PySem.W.Frag) (x : Str) (c : Value) (b : Bool) : Bool := decide (PySem.W.exmOne K (.ref (ga K x)) c = some b)
/-- the tables are not one another's -/
def apart (K : PySem.W.Frag) : Bool := decide ((tabN.map fun p => (cT K p).2).Nodup)
/-- the errors are not one another -/
def errA (K : PySem.W.Frag) : Bool := decide ((errsN.map fun q => ga K q.1).Nodup)
/-- what stands of Cut -/
def kindB (K : PySem.W.Frag) (x z : Str) : Bool := match PySem.W.findIn K (.ref (ga K x)) "KIND" with
  | some (some (.str y t)) => decide (y = z) && eqO (PySem.W.specialIn K (.str y t) "__get__") (some none)
  | _ => false
def cutB (K : PySem.W.Frag) : Bool := PySem.W.makesIn K (ga K "Cut") && (eqO (PySem.W.findIn K (.ref (ga K "Cut")) "__init__") (some (some (.builtin "object.__init__"))) && (decide (PySem.W.mroIn K (ga K "Cut") (.type "object") = some true) && kindB K "Cut" "cut"))
/-- the defs behind a static and a class method -/
def dAs : List He5.DefA := []
def exS (K : PySem.W.Frag) : Bool := errA K && (cutB K && (apart K && (objB K && ((errsN.all fun q => errB K q.1 q.2) && ((iniN.all fun q => iniE K q.1 q.2.2) && (errsN.all fun q => exmB K q.1 (.ref (ga K "EditionError")) true))))))
/-! ### the Hook, with the interpreter's own statics and defs at any address -/
/-- those of the addresses that are not seen yet, each once; what is seen is held as the bits of a number -/
def newB {β : Type} : List Addr → Nat → (List Addr → Nat → β) → β
  | [], s, k => k [] s
  | a :: r, s, k => match Nat.beq (Nat.land (Nat.shiftRight s a) 1) 0 with
    | true => newB r (Nat.lor s (Nat.shiftLeft 1 a)) fun n s' => k (a :: n) s'
    | false => newB r s k
def goB {β : Type} (g : Addr → Option Obj) : List Addr → Nat → (List Addr → Nat → β) → β
  | [], s, k => k [] s
  | a :: r, s, k => match g a with
    | some o => newB (He.refsD o) s fun n s' => goB g r s' fun m s2 => k (n ++ m) s2
    | none => goB g r s k
/-- what is reached in so many steps -/
def asB (g : Addr → Option Obj) : Nat → List Addr → Nat → List Addr
  | 0, fr, _ => fr
  | n + 1, fr, s => goB g fr s fun nw s' => fr ++ asB g n nw s'
def asY (g : Addr → Option Obj) (n : Nat) : List Addr := cStatics :: asB g n [mainGlobals] (Nat.shiftLeft 1 mainGlobals)
abbrev AlY : Type := AlX × List He5.FnW
def frY (n : Nat) (g : Addr → Option Obj) : PySem.W.Frag := He.frT g (asY g n)
def obsS (n : Nat) (g : Addr → Option Obj) : AlY := ((He.obsT fas fns [] (frY n g), exS (frY n g) && He.tabsB g tabN (frY n g)), dAs.map fun d => He5.fnA (frY n g) (d.at_ (frY n g)))
def valS (w : World) : AlY := (He.valX fns [] w, dAs.map He5.DefA.val)
structure SaysY (w : World) (h : Heap) (K : PySem.W.Frag) : Prop where
  x : He.SaysX fas fns [] tabN exS w h K
  y : (dAs.map fun d => He5.fnA K (d.at_ K)) = dAs.map He5.DefA.val
theorem says_fr {as : List Addr} {w : World} {h : Heap} (a : He.obsT fas fns [] (He.frT h.get? as) = He.valT fns [] w) (b : (exS (He.frT h.get? as) && He.tabsB h.get? tabN (He.frT h.get? as)) = true) : He.SaysX fas fns [] tabN exS w h (He.frT h.get? as) := by
  obtain ⟨b1, b2⟩ := ba b
  generalize hK : He.frT h.get? as = K at a b1 b2
  have at1 : ∀ p ∈ tabN, PySem.W.codeHdIn K (cT K p).1 (cT K p).2 = true ∧ ∃ u, h.get? (cT K p).2 = some u ∧ He.emptyTab u = true := by
    intro p hp
    obtain ⟨c1, c2⟩ := ba (List.all_eq_true.mp b2 p hp)
    refine ⟨c1, ?_⟩
    rcases e : h.get? (cT K p).2 with _ | u
    · rw [e] at c2
      exact nomatch c2
    · rw [e] at c2
      exact ⟨u, rfl, c2⟩
  constructor
  · exact a
  · exact b1
  · exact fun p hp => (at1 p hp).1
  · intro p hp
    obtain ⟨_, u, e, z⟩ := at1 p hp
    rw [← hK] at e ⊢
    exact He.frT_none e z
  · intro p hp
    obtain ⟨_, u, e, z⟩ := at1 p hp
    rw [e, He.emptyTab_eq z]
theorem saysY_of {n : Nat} {w : World} {h : Heap} (e : obsS n h.get? = valS w) : SaysY w h (frY n h.get?) :=
  ⟨says_fr (congrArg (fun z : AlY => z.1.1) e) (congrArg (fun z : AlY => z.1.2) e), congrArg (fun z : AlY => z.2) e⟩
theorem SaysY.keep {w : World} {h h' : Heap} {K : PySem.W.Frag} (c : SaysY w h K) (k : ∀ a o, h.get? a = some o → h'.get? a = some o) : SaysY w h' K :=
  ⟨⟨c.x.t, c.x.more, c.x.hd, c.x.out, fun p hp => k _ _ (c.x.empty p hp)⟩, c.y⟩
def hookS (n : Nat) : PySem.W.Hook where
  α := AlY
  obs := fun s => obsS n s.heap.get?
  val := fun w => valS w
  says := fun w h => ∃ K : PySem.W.Frag, K.In h ∧ SaysY w h K
  of := fun _ _ e => ⟨_, frT_in, saysY_of e⟩
  keeps := fun _ _ _ ⟨K, hK, c⟩ k => ⟨K, PySem.W.Frag.In.keeps hK k, c.keep k⟩
theorem obsS_eq {n : Nat} {g : Addr → Option Obj} {s : Shared} (h : ∀ a, g a = s.heap.get? a) : obsS n g = (hookS n).obs s := by
  rw [show g = s.heap.get? from funext h]
  rfl
end K9
set_option Elab.async false
set_option linter.all false
set_option maxRecDepth 100000
set_option maxHeartbeats 0
namespace K9
open PySem PySem.Spec PyProof.Rows L2 He EF
abbrev hkS : PySem.W.Hook := hookS 6
def obT (s : PySem.W.SharedT) : AlY := obsS 6 (HandSHeadRun.getT s)
theorem obT_eq (s : PySem.W.SharedT) : obT s = hkS.obs s.abs := obsS_eq (HandSHeadRun.getT_eq s)
def loose : List Str := (["_wall", "LINES", "DAYS", "is_integer", "is_within", "is_fix", "EditionError", "BadInput", "BadDeed", "BadFix", "BadText", "NoDay", "NoLine", "checked_fix", "checked_line", "checked_mate", "checked_day", "checked_lines", "checked_days", "is_stop", "line_stop", "day_stop", "take_named", "take_mate", "take_rising", "take_stop", "number_of", "is_plain_number"] : List Str) ++
  (["Words", "Deed", "OnMain", "OnLine", "OfTwo", "OfMany", "OfDay", "deed_of", "line_deed_of", "other_deed_of", "Fix", "Unfix", "Cut", "Carry", "Drop", "Merge", "End", "Offer", "Live", "Down", "Day", "Try", "Probe", "Meet", "Rise", "Night", "Redo", "Renew", "Shut"] : List Str) ++ (["_law_pen", "_law_draw", "_law_pick", "_law_heard", "_law_one_right", "_law_many_right"] : List Str)
theorem runS (w : World) : HandSHeadRun.RunEq R (PySem.W.view R.prog [69]) hkS obT 20000 loose w := by
  intro os
  kernel_rfl
end K9
set_option Elab.async false
set_option linter.all false
set_option maxRecDepth 100000
set_option maxHeartbeats 4000000
/-! What is known of a value all the way down, and repr of it. -/
namespace RV
open PySem PySem.Spec PyProof.Rows L2
def keyD : Key → PyData
  | .inl i => .int i
  | .inr x => .str x
mutual
/-- at v stands the datum d, all the way down -/
inductive Dat (H : Hp) : V → PyData → Prop
  | non : Dat H .non .none
  | bl (b : Bool) : Dat H (.bl b) (.bool b)
  | int (i : Int) : Dat H (.int i) (.int i)
  | str (x : Str) : Dat H (.str x) (.str x)
  | tup {a : Addr} {xs : List V} {ds : List PyData} : H a = some (.tup xs) → Dats H xs ds → Dat H (.ref a) (.tuple ds)
  | lst {a : Addr} {xs : List V} {ds : List PyData} : H a = some (.lst xs) → a ≠ sysModules → Dats H xs ds → Dat H (.ref a) (.list ds)
  | dic {a : Addr} {kvs : List (Key × V)} {kds : List (PyData × PyData)} : H a = some (.dK kvs) → kds.map (·.1) = kvs.map (fun q => keyD q.1) →
      Dats H (kvs.map (·.2)) (kds.map (·.2)) → Dat H (.ref a) (.dict kds)
inductive Dats (H : Hp) : List V → List PyData → Prop
  | nil : Dats H [] []
  | cons {x : V} {d : PyData} {xs : List V} {ds : List PyData} : Dat H x d → Dats H xs ds → Dats H (x :: xs) (d :: ds)
end
mutual
theorem Dat.same {H H' : Hp} (k : ∀ b o, H b = some o → H' b = some o) {v : V} {d : PyData} : Dat H v d → Dat H' v d
  | .non => .non
  | .bl b => .bl b
  | .int i => .int i
  | .str x => .str x
  | .tup e r => .tup (k _ _ e) (r.same k)
  | .lst e n r => .lst (k _ _ e) n (r.same k)
  | .dic e q r => .dic (k _ _ e) q (r.same k)
theorem Dats.same {H H' : Hp} (k : ∀ b o, H b = some o → H' b = some o) {xs : List V} {ds : List PyData} : Dats H xs ds → Dats H' xs ds
  | .nil => .nil
  | .cons r t => .cons (r.same k) (t.same k)
end
theorem vals_of_kv {kvs : List (Key × V)} {vs : List (Key × Value)} (r : KV kvs vs) : kvs.map (·.1) = vs.map (·.1) ∧ Vals (kvs.map (·.2)) (vs.map (·.2)) := by
  induction r with
  | nil => exact ⟨rfl, .nil⟩
  | cons h t ih => exact ⟨by rw [List.map_cons, List.map_cons, ih.1, h.1], .cons h.2 ih.2⟩
theorem pairs_of {P : Program} {w : World} {es : List DictEntry} {vs : List (Key × Value)} (r : Pairs (mixKind P w) es vs) (h : Heap) :
    (∃ as, ReadsAll h (es.map (·.key)) (vs.map fun q => keyD q.1) as ∧ as = []) ∧ es.map (·.val) = vs.map (·.2) := by
  induction r with
  | nil => exact ⟨⟨[], .nil, rfl⟩, rfl⟩
  | @cons e kv es kvs hk hv t ih =>
    obtain ⟨⟨as, ra, ha⟩, iv⟩ := ih
    subst ha
    refine ⟨⟨[], ?_, rfl⟩, by rw [List.map_cons, List.map_cons, hv, iv]⟩
    rw [List.map_cons, List.map_cons]
    rcases keyIs_shape (show keyIs kv.1 e.key = true from hk) with ⟨i, u, e1, e2⟩ | ⟨x, u, e1, e2⟩
    · rw [e1, e2]
      exact .cons (as := []) (bs := []) (.int i u) ra
    · rw [e1, e2]
      exact .cons (as := []) (bs := []) (.str x u) ra
mutual
theorem Dat.reads {P : Program} {w : World} {H : Hp} {h : Heap} (ok : HOk P w H h) {v : V} {d : PyData} {u : Value} : Dat H v d → RelV v u → ∃ as, Reads h u d as ∧ sysModules ∉ as
  | .non, r => by
    cases (show u = Value.none from r)
    exact ⟨[], .none, by simp⟩
  | .bl b, r => by
    cases (show u = Value.bool b from r)
    exact ⟨[], .bool b, by simp⟩
  | .int i, r => by
    obtain ⟨t, rfl⟩ := (show ∃ t, u = Value.int i t from r)
    exact ⟨[], .int i t, by simp⟩
  | .str x, r => by
    obtain ⟨t, rfl⟩ := (show ∃ t, u = Value.str x t from r)
    exact ⟨[], .str x t, by simp⟩
  | .tup (a := a) (xs := xs) e q, r => by
    cases (show u = Value.ref a from r)
    obtain ⟨_, its, rv, o, h1, h2, n, h3⟩ := (show ObjOk P w H h a (.tup xs) from ok a _ e)
    obtain ⟨as, ra, na⟩ := q.reads ok rv
    exact ⟨as, .tuple h1 h2 h3 ra, na⟩
  | .lst (a := a) (xs := xs) e n q, r => by
    cases (show u = Value.ref a from r)
    obtain ⟨_, its, m, rv, h1⟩ := (show ObjOk P w H h a (.lst xs) from ok a _ e)
    obtain ⟨as, ra, na⟩ := q.reads ok rv
    exact ⟨a :: as, .list h1 rfl rfl ra, fun z => by
      rcases List.mem_cons.mp z with z | z
      · exact n z.symm
      · exact na z⟩
  | .dic (a := a) (kvs := kvs) (kds := kds) e q t, r => by
    cases (show u = Value.ref a from r)
    obtain ⟨_, hs, vs, rk, o, es, ep, h1, h2, h3, _, h5, _⟩ := (show ObjOk P w H h a (.dK kvs) from ok a _ e)
    obtain ⟨k1, k2⟩ := vals_of_kv rk
    obtain ⟨⟨as, ra, ha⟩, iv⟩ := pairs_of h5 h
    obtain ⟨bs, rb, nb⟩ := t.reads ok k2
    subst ha
    refine ⟨a :: [] ++ bs, .dict h1 h2.1 h3 (as := []) (bs := bs) ?_ ?_, fun z => ?_⟩
    · have e2 : kds.map (·.1) = vs.map fun q => keyD q.1 := by
        rw [q, show (kvs.map fun q => keyD q.1) = (kvs.map (·.1)).map keyD by rw [List.map_map]; rfl, k1, List.map_map]
        rfl
      rw [e2]
      exact ra
    · rw [iv]
      exact rb
    · rcases List.mem_cons.mp z with z | z
      · exact (beq_eq_false_iff_ne.mp hs) z.symm
      · exact nb z
theorem Dats.reads {P : Program} {w : World} {H : Hp} {h : Heap} (ok : HOk P w H h) {xs : List V} {ds : List PyData} {us : List Value} : Dats H xs ds → Vals xs us → ∃ as, ReadsAll h us ds as ∧ sysModules ∉ as
  | .nil, r => by
    cases r
    exact ⟨[], .nil, by simp⟩
  | .cons q t, r => by
    cases r with
    | cons r1 r2 =>
      obtain ⟨as, ra, na⟩ := q.reads ok r1
      obtain ⟨bs, rb, nb⟩ := t.reads ok r2
      exact ⟨as ++ bs, .cons ra rb, fun z => (List.mem_append.mp z).elim na nb⟩
end
/-- repr of a container -/
def rRepr : List V → Hp → VK → Prop := fun xs H Q => ∃ a d, xs = [.ref a] ∧ Dat H (.ref a) d ∧ d.showable = true ∧ d.depth ≤ 20 ∧ d.shown.length ≤ sizeLine ∧ Q (.str d.shown) H
theorem call_repr {X : Cx} (hg : X.A.guards = some []) (hu : X.A.units + 64 < cLine) : CallR X (.builtin "repr") rRepr := by
  intro pins s σ H xs us Q I r h
  obtain ⟨a, d, rfl, D, hs, hd, hz, q⟩ := h
  cases r with
  | cons r1 r2 =>
    cases r2
    obtain ⟨as, ra, na⟩ := D.reads I.hok r1
    cases (show _ = Value.ref a from r1)
    exact repr_of_reads' ra hs (fun _ => na) hg (by omega) (fun _ _ e => e) (fun h' u tk k => ⟨.str d.shown, H, I.kept (t' := tk) k, ⟨_, rfl⟩, q⟩) hz
/-- a list display: the new list is not the table of modules -/
theorem pe_lst1 {X : Cx} {es : List Expr} {t : TA} {pos : Pos} (h : PA X es t) :
    PE X (.List es pos) (fun σ H Q => t σ H fun xs H1 => xs.length ≤ sizeLine ∧ ∀ p, H1 p = none → p ≠ sysModules → Q (.ref p) (upd H1 p (.lst xs))) := by
  refine ⟨fun pins s σ H Q I hq => ?_⟩
  refine wpAny_List_spliced (thn (h.run pos pins s σ H _ I hq) fun us s1 ⟨xs, H1, I1, r, z, q⟩ => ⟨by rw [← r.length]; exact z, ?_⟩)
  refine ⟨.ref s1.heap.objs.size, _, I1.laid (t' := s1.toks) (o := .lst xs) (fun b u e => Heap.get?_push_of_some _ e) (Nat.le_refl _) ⟨z, us, 0, r, Heap.get?_push_size _ rfl⟩, rfl,
    q _ (I1.hok.fresh (Nat.le_refl _)) (Nat.ne_of_gt I1.big)⟩
/-- a list so many times -/
def rMulL : R2 := fun x y H Q => ∃ l k xs, x = .ref l ∧ y = .int k ∧ H l = some (.lst xs) ∧ xs ≠ [] ∧ 0 ≤ k ∧ k ≤ 1000 ∧ xs.length ≤ 1000 ∧
  ∀ p, H p = none → p ≠ sysModules → Q (.ref p) (upd H p (.lst (List.replicate k.toNat xs).flatten))
theorem op_mulL {X : Cx} : OpR X (binaryOp .Mult) rMulL := by
  intro pins s σ H x y v u Q I rx ry h
  obtain ⟨l, k, xs, rfl, rfl, hT, hne, h1, h2, hz, q⟩ := h
  cases rx
  obtain ⟨t, rfl⟩ := ry
  obtain ⟨_, its, n, r, ho⟩ := (show ObjOk X.prog X.w H s.heap l (.lst xs) from I.hok l _ hT)
  have hle : its.length = xs.length := r.length.symm
  have hi : its.toArray.isEmpty = false := by
    cases its with
    | nil => exact absurd (List.eq_nil_of_length_eq_zero hle.symm) hne
    | cons a b => rfl
  have hm : xs.length * k.toNat ≤ 1000 * 1000 := Nat.mul_le_mul hz (by omega)
  have hsz : its.toArray.size = xs.length := by rw [List.size_toArray, hle]
  refine wpAny_binaryOp_repeat_ref (T := "list") (U := "int") (by decide) ⟨_, ho, rfl⟩ (fun s' => typeIs_int s' k t) noFill_list_mul F.fills_int_mul F.slot_int_rmul repeat_list F.slot_int_index.lookup
    (call_meets F.slot_int_rmul (typeIs_int s k t) F.entry_int_rmul (F.args_int_rmul_2 _ _) (int___rmul___int_list k t l its.toArray n)
      ⟨ho, rfl, ⟨_, ho, rfl⟩, call_meets F.slot_list_mul ⟨_, ho, rfl⟩ F.entry_list_mul (F.args_list_mul_2 _ _)
        (AutoListH.list___mul___list_int_3 l its.toArray n k t (by simp [Builtin.List.listFitsIndex]; omega) (by rw [hsz]; omega) (by rw [hsz]; simp [Builtin.List.listTooLong, sizeLine]; omega)) ⟨ho, ?_⟩⟩)
  rw [hi, if_neg Bool.false_ne_true, size_rep]
  refine ⟨.ref s.heap.objs.size, _, I.laid (t' := s.toks) (o := .lst (List.replicate k.toNat xs).flatten) (fun b ob q => Heap.get?_push_of_some _ q) (Nat.le_refl _) ?_, rfl, q _ (I.hok.fresh (Nat.le_refl _)) (Nat.ne_of_gt I.big)⟩
  refine ⟨?_, _, 0, r.rep k.toNat, Heap.get?_push_size _ rfl⟩
  rw [PyProof.Rows.lm_len_rep_flat, sizeLine_eq]
  have := Nat.mul_comm k.toNat xs.length
  omega
end RV
set_option Elab.async false
set_option linter.all false
set_option maxRecDepth 100000
set_option maxHeartbeats 4000000
/-! The draws of the law: the pen, a draw, a pick. -/
namespace K9
open PySem PySem.Spec PyProof.Rows L2
abbrev sPen : Stmt := top 63
abbrev sDraw : Stmt := top 64
abbrev sPick : Stmt := top 65
abbrev FnP (K : PySem.W.Frag) (x : Str) (st : Stmt) (f : Addr) (fd : FuncData) : Prop := FunD K x x (defArgs st) (defBody st) (defScope st) [] [] f fd
/-- a pen at p: its cells at a, how many were taken, what is left of a great one -/
structure Pen (H : Hp) (p a : Addr) (cs : List Int) (b g : Int) : Prop where
  pn : H p = some (.lst [.ref a, .int b, .int g])
  ce : H a = some (.lst (cs.map V.int))
  b0 : 0 ≤ b
  g0 : 0 ≤ g
  ln : cs.length ≤ 63
theorem Pen.ne {H : Hp} {p a : Addr} {cs : List Int} {b g : Int} (P : Pen H p a cs b g) : a ≠ p := fun e => by
  have z := P.ce
  rw [e, P.pn] at z
  cases cs with
  | nil => cases z
  | cons c cs => cases z
def spDraw : Sp := fun vs H Q _ => ∃ (p a : Addr) (cs : List Int) (b g many : Int), vs = [.ref p, .int many] ∧ Pen H p a cs b g ∧ b ≤ 1000 ∧ 0 < many ∧ many < 1000 ∧
  ∀ (r b' g' : Int) (H' : Hp), 0 ≤ r → r < many → b' ≤ b + 1 → Pen H' p a cs b' g' → (∀ c o, c ≠ p → H c = some o → H' c = some o) → Q (.int r) H'
/-- the built-ins that are still themselves -/
structure Blt (mg : Str → Option Value) : Prop where
  int : mg "int" = none
  len : mg "len" = none
  abs : mg "abs" = none
  list : mg "list" = none
section
variable {P : Program} {w : World} {K : PySem.W.Frag} {mg : Str → Option Value} {base : Heap} {f : Addr} {fd : FuncData}
theorem scDraw : FnScope ["_law_pen_here", "_law_many", "_law_digit", "_law_spot", "_law_cell", "_law_great", "_law_mixed"] ["_law_pen_here", "_law_many"] (defScope sDraw) :=
  ⟨rfl, rfl, rfl, by decide +kernel, rfl, by decide +kernel, by decide +kernel⟩
theorem canLay_ints (cs : List Int) : PyData.canLayAll0 (cs.map PyData.int) = true := by
  induction cs with
  | nil => rfl
  | cons c cs ih => simp [PyData.canLayAll0, PyData.canLay0, ih]
theorem depth_ints (cs : List Int) : PyData.depthAll (cs.map PyData.int) = 0 := by
  induction cs with
  | nil => rfl
  | cons c cs ih => simp [PyData.depthAll, PyData.depth, ih]
theorem shaped_ints (cs : List Int) : SeqAt.shaped (.list (cs.map .int)) = true := by
  simp [SeqAt.shaped, PyData.canLay0, PyData.depth, canLay_ints, depth_ints]
theorem dp_ints {K : PySem.W.Frag} {H : Hp} (cs : List Int) : DpAll K H (cs.map V.int) (cs.map PyData.int) := by
  induction cs with
  | nil => exact .nil
  | cons c cs ih => exact .cons (.int c) ih
theorem great0 {R many : Int} (h : decide ((10 : Int) ^ Int.toNat 18 ≤ if R < 0 then -R else R) = true) (hm : 0 < many) :
    0 ≤ (2 * ((if R < 0 then -R else R) - (10 : Int) ^ Int.toNat 18) + if decide (R < 0) = true then 1 else 0) / many := by
  have h2 := of_decide_eq_true h
  refine Int.ediv_nonneg ?_ (by omega)
  split <;> omega
theorem cpow5 (R : Int) {b : Int} (h0 : 0 ≤ b) (h1 : b ≤ 1000) : CPow (R % 2147483579 + 55829 * b + 691) 5 := by
  have a1 := Int.emod_nonneg R (show (2147483579 : Int) ≠ 0 by decide)
  have a2 := Int.emod_lt_of_pos R (show (0 : Int) < 2147483579 by decide)
  refine ⟨by decide, by decide, ?_⟩
  omega
theorem cmul1 (x y : Int) : CMul (x % 2147483629) y := by
  have a1 := Int.emod_nonneg x (show (2147483629 : Int) ≠ 0 by decide)
  have a2 := Int.emod_lt_of_pos x (show (0 : Int) < 2147483629 by decide)
  exact .inl ⟨by omega, by omega⟩
theorem cpow3 (x : Int) {b : Int} (h0 : 0 ≤ b) (h1 : b ≤ 1000) : CPow (x % 2147483629 * (2 * b + 523) + 51719 * b * b + 19) 3 := by
  have a1 := Int.emod_nonneg x (show (2147483629 : Int) ≠ 0 by decide)
  have a2 := Int.emod_lt_of_pos x (show (0 : Int) < 2147483629 by decide)
  have b1 : x % 2147483629 * (2 * b + 523) ≤ 2147483629 * (2 * b + 523) := Int.mul_le_mul_of_nonneg_right (by omega) (by omega)
  have b2 : 0 ≤ x % 2147483629 * (2 * b + 523) := Int.mul_nonneg a1 (by omega)
  have b3 : 51719 * b * b ≤ 51719 * b * 1000 := Int.mul_le_mul_of_nonneg_left h1 (by omega)
  have b4 : 0 ≤ 51719 * b * b := Int.mul_nonneg (by omega) h0
  refine ⟨by decide, by decide, ?_⟩
  omega
theorem ok_draw (F : FnP K "_law_draw" sDraw f fd) (T : Blt mg) : FnOk P w K mg base CX0 1 f fd ["_law_pen_here", "_law_many"] spDraw := by
  refine F.ok scDraw (fun vs H Q E h => ?_) (fun cdv A outer s H vs Q E hr h => ?_)
  · obtain ⟨p, a, cs, b, g, many, rfl, _⟩ := h
    rfl
  · obtain ⟨p, a, cs, b, g, many, rfl, N, hb, hm0, hm1, k⟩ := h
    have hu := hr.units
    refine ⟨_, PSs.nox (pss_cons (ps_if (pt_cmpR op_gt (pe_ix ix_list (pv 0) pe_int (fun _ _ => rfl)) pe_int (nomark _))
        (pss_cons (ps_set (i := 2) scDraw.nd rfl (.inl rfl) (pe_op op_mod (pe_callTy call_int1 (by rfl) T.int boot_int (pa_cons (pe_ix ix_list (pv 0) pe_int (fun _ _ => rfl)) pa_nil)) (pv 1)))
        (pss_cons (ps_asg (pe_op op_fdiv (pe_callTy call_int1 (by rfl) T.int boot_int (pa_cons (pe_ix ix_list (pv 0) pe_int (fun _ _ => rfl)) pa_nil)) (pv 1)) (pg_sub (pv 0) pe_int set_list))
        (pss_one (ps_ret (pv 2))))) pss_nil)
      (pss_cons (ps_set (i := 3) scDraw.nd rfl (.inl rfl) (pe_ix ix_list (pv 0) pe_int (fun _ _ => rfl)))
      (pss_cons (ps_asg (pe_op op_add (pv 3) pe_int) (pg_sub (pv 0) pe_int set_list))
      (pss_cons (ps_set (i := 4) scDraw.nd rfl (.inl rfl) (pe_op op_add (pe_op op_mul pe_int (pv 3)) pe_int))
      (pss_cons (ps_if (pt_cmpR (op_neD hu) (pe_ix ix_list (pv 0) pe_int (fun _ _ => rfl)) (pe_lst pa_nil) (nomark _))
        (pss_one (ps_set (i := 4) scDraw.nd rfl (.inl rfl) (pe_ix ix_list (pe_ix ix_list (pv 0) pe_int (fun _ _ => rfl))
          (pe_op op_mod (pe_callTy call_int1 (by rfl) T.int boot_int (pa_cons (pv 3) pa_nil)) (pe_callB call_len_seq (by rfl) T.len PySem.boot_len (pa_cons (pe_ix ix_list (pv 0) pe_int (fun _ _ => rfl)) pa_nil))) (fun _ _ => rfl)))) pss_nil)
      (pss_cons (ps_if (PW.pt (pw_and (pt_cmpR op_lt (pv 3) (pe_callB call_len_seq (by rfl) T.len PySem.boot_len (pa_cons (pe_ix ix_list (pv 0) pe_int (fun _ _ => rfl)) pa_nil)) (nomark _))
          (pw_and1 (pt_cmpR op_ge (pe_callB call_abs (by rfl) T.abs boot_abs (pa_cons (pv 4) pa_nil)) (pe_op op_pow pe_int pe_int) (nomark _)))))
        (pss_cons (ps_set (i := 5) scDraw.nd rfl (.inl rfl) (pe_op op_add (pe_op op_mul pe_int (pe_op op_sub (pe_callB call_abs (by rfl) T.abs boot_abs (pa_cons (pv 4) pa_nil)) (pe_op op_pow pe_int pe_int)))
            (pe_callTy call_int1 (by rfl) T.int boot_int (pa_cons (pe_cmpR op_lt (pv 4) pe_int (nomark _)) pa_nil))))
        (pss_cons (ps_asg (pe_op op_fdiv (pe_callTy call_int1 (by rfl) T.int boot_int (pa_cons (pv 5) pa_nil)) (pv 1)) (pg_sub (pv 0) pe_int set_list))
        (pss_one (ps_ret (pe_op op_mod (pe_callTy call_int1 (by rfl) T.int boot_int (pa_cons (pv 5) pa_nil)) (pv 1)))))) pss_nil)
      (pss_cons (ps_set (i := 6) scDraw.nd rfl (.inl rfl) (pe_op op_mod (pe_callTy call_int1 (by rfl) T.int boot_int (pa_cons (pe_op op_pow (pe_op op_add (pe_op op_add
          (pe_op op_mod (pe_callTy call_int1 (by rfl) T.int boot_int (pa_cons (pv 4) pa_nil)) pe_int) (pe_op op_mul pe_int (pv 3))) pe_int) pe_int) pa_nil)) pe_int))
      (pss_cons (ps_set (i := 6) scDraw.nd rfl (.inl rfl) (pe_op op_mod (pe_callTy call_int1 (by rfl) T.int boot_int (pa_cons (pe_op op_pow (pe_op op_add (pe_op op_add
          (pe_op op_mul (pv 6) (pe_op op_add (pe_op op_mul pe_int (pv 3)) pe_int)) (pe_op op_mul (pe_op op_mul pe_int (pv 3)) (pv 3))) pe_int) pe_int) pa_nil)) pe_int))
      (pss_one (ps_ret (pe_op op_mod (pe_callTy call_int1 (by rfl) T.int boot_int (pa_cons (pe_op op_fdiv (pv 6) pe_int) pa_nil)) (pv 1)))))))))))), ?_⟩
    refine ⟨_, rfl, p, _, _, _, rfl, rfl, SqL.of N.pn, atI_nat (j := 2) rfl, _, _, rfl, rfl, _, rfl, ?_⟩
    refine ite2 (fun hg => ?_) (fun hg => ?_)
    · refine ⟨_, rfl, p, _, _, _, rfl, rfl, SqL.of N.pn, atI_nat (j := 2) rfl, .inl ⟨_, rfl, _, rfl, _, _, rfl, rfl, hm0, ?_⟩⟩
      refine ⟨_, rfl, p, _, _, _, rfl, rfl, SqL.of N.pn, atI_nat (j := 2) rfl, .inl ⟨_, rfl, _, rfl, _, _, rfl, rfl, ⟨hm0, by omega⟩, _, rfl, p, _, _, _, rfl, rfl, N.pn, rfl, ?_⟩⟩
      refine ⟨_, rfl, k (g % many) b (g / many) _ (Int.emod_nonneg _ (by omega)) (Int.emod_lt_of_pos _ hm0) (by omega)
        ⟨upd_same, by rw [upd_ne N.ne]; exact N.ce, N.b0, Int.ediv_nonneg N.g0 (by omega), N.ln⟩ fun c o hc e => by rw [upd_ne hc]; exact e⟩
    · refine ⟨_, rfl, p, _, _, _, rfl, rfl, SqL.of N.pn, atI_nat (j := 1) rfl, ?_⟩
      refine ⟨_, rfl, _, _, rfl, rfl, _, rfl, p, _, _, _, rfl, rfl, N.pn, rfl, ?_⟩
      have N1 : Pen (upd H p (.lst [.ref a, .int (b + 1), .int g])) p a cs (b + 1) g :=
        ⟨upd_same, by rw [upd_ne N.ne]; exact N.ce, by have := N.b0; omega, N.g0, N.ln⟩
      refine ⟨_, rfl, _, _, rfl, rfl, .inl ⟨by decide, by decide⟩, _, _, rfl, rfl, ?_⟩
      refine ⟨_, rfl, p, _, _, _, rfl, rfl, SqL.of N1.pn, atI_nat (j := 0) rfl, Nat.zero_le _, fun q hq => ?_⟩
      have qp : p ≠ q := ne_of_none N1.pn hq
      have qa : a ≠ q := ne_of_none N1.ce hq
      have N2 : Pen (upd (upd H p (.lst [.ref a, .int (b + 1), .int g])) q (.lst [])) p a cs (b + 1) g :=
        ⟨by rw [upd_ne qp]; exact N1.pn, by rw [upd_ne qa]; exact N1.ce, N1.b0, N1.g0, N1.ln⟩
      have keep2 : ∀ c o, c ≠ p → H c = some o → upd (upd H p (.lst [.ref a, .int (b + 1), .int g])) q (.lst []) c = some o := fun c o hc e => by
        have e1 : upd H p (.lst [.ref a, .int (b + 1), .int g]) c = some o := by rw [upd_ne hc]; exact e
        rw [upd_ne (ne_of_none e1 hq)]
        exact e1
      refine ⟨.list (cs.map .int), .list [], .lst (SqL.of N2.ce) (dp_ints cs), .lst (SqL.of upd_same) .nil, shaped_ints cs, by decide, _, rfl, ?_⟩
      have two : (PyData.list (cs.map .int)).eqv (.list []) = true ∨ ((PyData.list (cs.map .int)).eqv (.list []) = false ∧ ∃ c, atI (cs.map V.int) (b % ((cs.map V.int).length : Int)) = some (.int c) ∧ (0 : Int) < ((cs.map V.int).length : Int)) := by
        cases cs with
        | nil => exact .inl rfl
        | cons c0 cs =>
          refine .inr ⟨rfl, ?_⟩
          have hl : (0 : Int) < (((c0 :: cs).map V.int).length : Int) := by rw [List.length_map, List.length_cons]; omega
          obtain ⟨j, hj⟩ := Int.eq_ofNat_of_zero_le (Int.emod_nonneg b (Int.ne_of_gt hl))
          have hlt := Int.emod_lt_of_pos b hl
          have hj2 : j < (c0 :: cs).length := by rw [hj, List.length_map] at hlt; exact Int.ofNat_lt.mp hlt
          refine ⟨(c0 :: cs)[j], ?_, hl⟩
          rw [hj]
          refine atI_nat ?_
          rw [List.getElem?_map, List.getElem?_eq_getElem hj2]
          rfl
      show if (!(PyData.list (cs.map .int)).eqv (.list [])) = true then _ else _
      rcases two with e | ⟨e, c, hc, hl⟩
      case' inl =>
        rw [e]
        refine iteF ?_
      case' inr =>
        rw [e]
        refine iteT ?_
        refine ⟨_, rfl, p, _, _, _, rfl, rfl, SqL.of N2.pn, atI_nat (j := 0) rfl, _, rfl, .inl ⟨_, rfl, _, rfl, p, _, _, _, rfl, rfl, SqL.of N2.pn, atI_nat (j := 0) rfl, a, _, rfl, .inl (SqL.of N2.ce), _, _, rfl, rfl, hl, a, _, _, _, rfl, rfl, SqL.of N2.ce, hc, ?_⟩⟩
      all_goals
        refine ⟨_, rfl, _, rfl, p, _, _, _, rfl, rfl, SqL.of N2.pn, atI_nat (j := 0) rfl, a, _, rfl, .inl (SqL.of N2.ce), _, _, rfl, rfl, _, rfl, ?_⟩
        refine ite2 (fun h1 => ?_) (fun h1 => ?_)
        · refine ⟨_, rfl, _, rfl, _, _, rfl, rfl, ⟨by decide, by decide, by decide⟩, _, _, rfl, rfl, _, rfl, ?_⟩
          refine ite2 (fun h2 => ?_) (fun h2 => ?_)
          · refine ⟨_, rfl, _, rfl, _, _, rfl, rfl, ⟨by decide, by decide, by decide⟩, _, _, rfl, rfl, _, _, rfl, rfl, .inl ⟨by decide, by decide⟩, _, rfl, _, _, rfl, rfl, .inr ⟨_, rfl, _, _, rfl, rfl, ?_⟩⟩
            refine ⟨_, rfl, .inl ⟨_, rfl, _, rfl, _, _, rfl, rfl, ⟨hm0, by omega⟩, _, rfl, p, _, _, _, rfl, rfl, N2.pn, rfl, ?_⟩⟩
            refine ⟨_, rfl, .inl ⟨_, rfl, _, rfl, _, _, rfl, rfl, hm0, ?_⟩⟩
            refine k _ (b + 1) _ _ (Int.emod_nonneg _ (by omega)) (Int.emod_lt_of_pos _ hm0) (by omega)
              ⟨upd_same, by rw [upd_ne N2.ne]; exact N2.ce, N2.b0, great0 h2 hm0, N2.ln⟩ fun c o hc e => by rw [upd_ne hc]; exact keep2 c o hc e
          · refine ⟨_, rfl, .inl ⟨_, rfl, _, _, rfl, rfl, (by show (0 : Int) < _; decide), _, rfl, _, _, rfl, rfl, .inl ⟨by decide, by decide⟩, _, _, rfl, rfl, _, _, rfl, rfl, _, _, rfl, rfl, cpow5 _ N.b0 hb, .inl ⟨_, rfl, _, _, rfl, rfl, (by show (0 : Int) < _; decide), ?_⟩⟩⟩
            refine ⟨_, rfl, _, rfl, _, _, rfl, rfl, .inl ⟨by decide, by decide⟩, _, _, rfl, rfl, _, _, rfl, rfl, cmul1 _ _, _, rfl, _, _, rfl, rfl, .inl ⟨by decide, by decide⟩, _, rfl, _, _, rfl, rfl, .inr ⟨by have := N.b0; omega, by omega⟩, _, _, rfl, rfl, _, _, rfl, rfl, _, _, rfl, rfl, cpow3 _ N.b0 hb, .inl ⟨_, rfl, _, _, rfl, rfl, (by show (0 : Int) < _; decide), ?_⟩⟩
            refine ⟨_, rfl, _, _, rfl, rfl, ⟨by decide, by decide⟩, .inl ⟨_, rfl, _, rfl, _, _, rfl, rfl, hm0, ?_⟩⟩
            exact k _ (b + 1) g _ (Int.emod_nonneg _ (by omega)) (Int.emod_lt_of_pos _ hm0) (by omega) N2 keep2
        · refine ⟨_, rfl, .inl ⟨_, rfl, _, _, rfl, rfl, (by show (0 : Int) < _; decide), _, rfl, _, _, rfl, rfl, .inl ⟨by decide, by decide⟩, _, _, rfl, rfl, _, _, rfl, rfl, _, _, rfl, rfl, cpow5 _ N.b0 hb, .inl ⟨_, rfl, _, _, rfl, rfl, (by show (0 : Int) < _; decide), ?_⟩⟩⟩
          refine ⟨_, rfl, _, rfl, _, _, rfl, rfl, .inl ⟨by decide, by decide⟩, _, _, rfl, rfl, _, _, rfl, rfl, cmul1 _ _, _, rfl, _, _, rfl, rfl, .inl ⟨by decide, by decide⟩, _, rfl, _, _, rfl, rfl, .inr ⟨by have := N.b0; omega, by omega⟩, _, _, rfl, rfl, _, _, rfl, rfl, _, _, rfl, rfl, cpow3 _ N.b0 hb, .inl ⟨_, rfl, _, _, rfl, rfl, (by show (0 : Int) < _; decide), ?_⟩⟩
          refine ⟨_, rfl, _, _, rfl, rfl, ⟨by decide, by decide⟩, .inl ⟨_, rfl, _, rfl, _, _, rfl, rfl, hm0, ?_⟩⟩
          exact k _ (b + 1) g _ (Int.emod_nonneg _ (by omega)) (Int.emod_lt_of_pos _ hm0) (by omega) N2 keep2
end
open RV
theorem same_new {H : Hp} {p : Addr} {o : HO} (n : H p = none) : Same H (upd H p o) := fun b u e => by
  rw [upd_ne (ne_of_none e n)]
  exact e
theorem Pen.same {H H' : Hp} {p a : Addr} {cs : List Int} {b g : Int} (P : Pen H p a cs b g) (k : Same H H') : Pen H' p a cs b g :=
  ⟨k _ _ P.pn, k _ _ P.ce, P.b0, P.g0, P.ln⟩
/-- a heap without p -/
def mn (H : Hp) (p : Addr) : Hp := fun c => if c = p then none else H c
theorem mn_same {H : Hp} {p : Addr} : mn H p p = none := if_pos rfl
theorem mn_ne {H : Hp} {p c : Addr} (h : c ≠ p) : mn H p c = H c := if_neg h
theorem mn_at {H : Hp} {p c : Addr} {o u : HO} (hp : H p = some u) (hc : H c = some o) (d : o ≠ u) : mn H p c = some o := by
  rw [mn_ne (ne_of hc hp d)]
  exact hc
theorem _root_.RV.Dats.mem {H : Hp} {xs : List V} {ds : List PyData} (r : Dats H xs ds) {x : V} (hx : x ∈ xs) : ∃ d ∈ ds, Dat H x d := by
  induction xs generalizing ds with
  | nil => cases hx
  | cons y ys ih =>
    cases r with
    | @cons _ d _ ds r1 r2 =>
      rcases List.mem_cons.mp hx with e | e
      · exact ⟨d, List.mem_cons_self, by rw [e]; exact r1⟩
      · obtain ⟨d', h1, h2⟩ := ih r2 e
        exact ⟨d', List.mem_cons_of_mem _ h1, h2⟩
def spPen (K : PySem.W.Frag) : Sp := fun vs H Q _ => ∃ (s : Addr) (ns : List Int), vs = [.ref s] ∧ SqL K H s (ns.map V.int) ∧ ns.length ≤ 63 ∧
  ∀ (p a : Addr) (cs : List Int) (H' : Hp), Pen H' p a cs 0 0 → Same H H' → Q (.ref p) H'
def spPick : Sp := fun vs H Q _ => ∃ (p a l : Addr) (cs : List Int) (b g : Int) (xs : List V), vs = [.ref p, .ref l] ∧ Pen H p a cs b g ∧ b ≤ 1000 ∧ l ≠ p ∧ H l = some (.lst xs) ∧
  xs ≠ [] ∧ xs.length < 1000 ∧
  ∀ (x : V) (b' g' : Int) (H' : Hp), x ∈ xs → b' ≤ b + 1 → Pen H' p a cs b' g' → (∀ c o, c ≠ p → H c = some o → H' c = some o) → Q x H'
section
variable {P : Program} {w : World} {K : PySem.W.Frag} {mg : Str → Option Value} {base : Heap} {f fD : Addr} {fd fdD : FuncData}
theorem scPen : FnScope ["_law_script"] ["_law_script"] (defScope sPen) := ⟨rfl, rfl, rfl, by decide +kernel, rfl, by decide +kernel, by decide +kernel⟩
theorem cut_ints (ns : List Int) (lo hi : Option Int) : ∃ cs : List Int, cutV (ns.map V.int) lo hi = cs.map V.int ∧ cs.length ≤ ns.length := by
  refine ⟨(ns.drop (HT.sIx (ns.map V.int).length 0 lo)).take (HT.sIx (ns.map V.int).length (ns.map V.int).length hi - HT.sIx (ns.map V.int).length 0 lo), ?_, ?_⟩
  · rw [List.map_take, List.map_drop]
    rfl
  · rw [List.length_take, List.length_drop]
    omega
theorem ok_pen (F : FnP K "_law_pen" sPen f fd) (T : Blt mg) : FnOk P w K mg base CX0 1 f fd ["_law_script"] (spPen K) := by
  refine F.ok scPen (fun vs H Q E h => ?_) (fun cdv A outer s H vs Q E hr h => ?_)
  · obtain ⟨a, ns, rfl, _⟩ := h
    rfl
  · obtain ⟨a, ns, rfl, hS, hl, k⟩ := h
    refine ⟨_, PSs.nox (pss_one (ps_ret (pe_lst (pa_cons (pe_callTy call_list_of (by rfl) T.list boot_list (pa_cons (pe_slice sl_list (pv 0) po_none (po_some pe_int)) pa_nil)) (pa_cons pe_int (pa_cons pe_int pa_nil)))))), ?_⟩
    obtain ⟨cs, e, hc⟩ := cut_ints ns none (some 63)
    refine ⟨_, rfl, _, rfl, a, _, rfl, hS, fun q hq => ?_⟩
    rw [e]
    refine ⟨q, _, rfl, .inl (SqL.of upd_same), fun r hr' => ⟨(by show 3 ≤ sizeLine; decide), fun p hp => ?_⟩⟩
    have n1 := ne_of_none (upd_same (H := upd H q (.lst (cs.map V.int))) (a := r) (o := .lst (cs.map V.int))) hp
    refine k p r cs _ ⟨upd_same, by rw [upd_ne n1, upd_same], Int.le_refl _, Int.le_refl _, by omega⟩ ((same_new hq).trans ((same_new hr').trans (same_new hp)))
theorem scPick : FnScope ["_law_pen_here", "_law_some"] ["_law_pen_here", "_law_some"] (defScope sPick) := ⟨rfl, rfl, rfl, by decide +kernel, rfl, by decide +kernel, by decide +kernel⟩
theorem ok_pick (F : FnP K "_law_pick" sPick f fd) (T : Blt mg) (FD : FnP K "_law_draw" sDraw fD fdD) (gD : mg "_law_draw" = some (.ref fD)) :
    FnOk P w K mg base CX0 2 f fd ["_law_pen_here", "_law_some"] spPick := by
  have GD : FnOk P w K mg base CX0 1 fD fdD ["_law_pen_here", "_law_many"] spDraw := ok_draw FD T
  have bD : Binds K fdD ["_law_pen_here", "_law_many"] [] := FD.bindsN fun _ _ _ _ _ _ us hl => match us, hl with | [_, _], _ => rfl
  refine F.ok scPick (fun vs H Q E h => ?_) (fun cdv A outer s H vs Q E hr h => ?_)
  · obtain ⟨p, a, l, cs, b, g, xs, rfl, _⟩ := h
    rfl
  · obtain ⟨p, a, l, cs, b, g, xs, rfl, N, hb, nl, hL, hx, hz, k⟩ := h
    refine ⟨_, PSs.nox (pss_one (ps_ret (pe_ix ix_list (pv 1) (pe_call GD hr (by rfl) gD FD.kp bD .nil pass0 (pa_cons (pv 0) (pa_cons (pe_callB call_len_seq (by rfl) T.len PySem.boot_len (pa_cons (pv 1) pa_nil)) pa_nil))) (fun _ _ => rfl)))), ?_⟩
    have h0 : (0 : Int) < (xs.length : Int) := by
      cases xs with
      | nil => exact absurd rfl hx
      | cons x xs => rw [List.length_cons]; omega
    refine ⟨_, rfl, _, rfl, _, rfl, l, _, rfl, .inl (SqL.of hL), p, a, cs, b, g, _, rfl, N, hb, h0, by omega, fun r b' g' H' r0 r1 hb' N' kp => ?_⟩
    obtain ⟨j, rfl⟩ := Int.eq_ofNat_of_zero_le r0
    have hj : j < xs.length := Int.ofNat_lt.mp r1
    exact ⟨l, xs, _, _, rfl, rfl, SqL.of (kp l _ nl hL), atI_nat (List.getElem?_eq_getElem hj), k _ b' g' H' (List.getElem_mem hj) hb' N' kp⟩
end
end K9
set_option Elab.async false
set_option linter.all false
set_option maxRecDepth 100000
set_option maxHeartbeats 1000000
/-! The checks: is_integer, is_within, is_fix. -/
namespace K9
open PySem PySem.Spec PyProof.Rows L2 RV
abbrev sFix : Stmt := top 6
abbrev sInt : Stmt := top 4
abbrev sWithin : Stmt := top 5
structure Blt2 (mg : Str → Option Value) : Prop where
  isi : mg "isinstance" = none
  int : mg "int" = none
  bool : mg "bool" = none
  str : mg "str" = none
  len : mg "len" = none
  all : mg "all" = none
theorem boot_T {x : Str} {t : String} (h : bootBuiltins x = some (.type t) := by decide +kernel) : bootBuiltins x = some (.type t) := h
/-- isinstance(e, T) of a value of a built-in type -/
def rIsB (K : PySem.W.Frag) : List V → Hp → VK → Prop := rIsi K
theorem isb {K : PySem.W.Frag} {H : Hp} {v : V} {a b : String} {r : Bool} {Q : VK} (t : TyX K H v (.type a)) (h : kitB a b = some r) (k : Q (.bl r) H) : rIsi K [v, .ty b] H Q := ⟨v, .ty b, _, _, r, rfl, .ty b, t, kit_ty h, k⟩
theorem if_posB {b : Bool} {A B : Prop} (hb : b = true) (h : A) : if b = true then A else B := by rw [if_pos hb]; exact h
theorem if_negB {b : Bool} {A B : Prop} (hb : b = false) (h : B) : if b = true then A else B := by rw [if_neg (by rw [hb]; exact Bool.false_ne_true)]; exact h
def spIsInt (K : PySem.W.Frag) : Sp := fun vs H Q _ => ∃ v t bi bb, vs = [v] ∧ TyX K H v (.type t) ∧ kitB t "int" = some bi ∧ kitB t "bool" = some bb ∧ Q (.bl (bi && !bb)) H
def spWithin (K : PySem.W.Frag) : Sp := fun vs H Q _ => ∃ v t bi bb lo hi, vs = [v, .int lo, .int hi] ∧ TyX K H v (.type t) ∧ kitB t "int" = some bi ∧ kitB t "bool" = some bb ∧
  (((bi && !bb) = false ∧ Q (.bl false) H) ∨ ((bi && !bb) = true ∧ ∃ i, v = .int i ∧ Q (.bl (decide (lo ≤ i) && decide (i ≤ hi))) H))
section
variable {P : Program} {w : World} {K : PySem.W.Frag} {mg : Str → Option Value} {base : Heap} {f fI : Addr} {fd fdI : FuncData}
theorem scInt : FnScope ["value"] ["value"] (defScope sInt) := ⟨rfl, rfl, rfl, by decide +kernel, rfl, by decide +kernel, by decide +kernel⟩
theorem ok_isInt (F : FnP K "is_integer" sInt f fd) (T : Blt2 mg) : FnOk P w K mg base CX0 1 f fd ["value"] (spIsInt K) := by
  refine F.ok scInt (fun vs H Q E h => ?_) (fun cdv A outer s H vs Q E hr h => ?_)
  · obtain ⟨v, t, bi, bb, rfl, _⟩ := h
    rfl
  · obtain ⟨v, t, bi, bb, rfl, ht, h1, h2, k⟩ := h
    refine ⟨_, PSs.nox (pss_one (ps_ret (pe_and (pe_callB call_isi (by rfl) T.isi PyProof.Rows.boot_isinstance (pa_cons (pv 0) (pa_cons (pe_bltn (v := .ty "int") (by rfl) T.int boot_int rfl) pa_nil)))
      (pe_one (pe_not (pe_callB call_isi (by rfl) T.isi PyProof.Rows.boot_isinstance (pa_cons (pv 0) (pa_cons (pe_bltn (v := .ty "bool") (by rfl) T.bool boot_T rfl) pa_nil)))))))), ?_⟩
    refine ⟨v, rfl, v, .ty "int", _, _, bi, rfl, .ty _, ht, kit_ty h1, bi, rfl, ?_⟩
    cases bi with
    | true => exact if_posB rfl ⟨v, rfl, v, .ty "bool", _, _, bb, rfl, .ty _, ht, kit_ty h2, bb, rfl, by simpa using k⟩
    | false => exact if_negB rfl (by simpa using k)
theorem scWithin : FnScope ["value", "least", "most"] ["value", "least", "most"] (defScope sWithin) := ⟨rfl, rfl, rfl, by decide +kernel, rfl, by decide +kernel, by decide +kernel⟩
theorem ok_within (F : FnP K "is_within" sWithin f fd) (T : Blt2 mg) (FI : FnP K "is_integer" sInt fI fdI) (gI : mg "is_integer" = some (.ref fI)) : FnOk P w K mg base CX0 2 f fd ["value", "least", "most"] (spWithin K) := by
  have GI : FnOk P w K mg base CX0 1 fI fdI ["value"] (spIsInt K) := ok_isInt FI T
  have bI : L2.Binds K fdI ["value"] [] := FI.bindsN fun _ _ _ _ _ _ us hl => match us, hl with | [_], _ => rfl
  refine F.ok scWithin (fun vs H Q E h => ?_) (fun cdv A outer s H vs Q E hr h => ?_)
  · obtain ⟨v, t, bi, bb, lo, hi, rfl, _⟩ := h
    rfl
  · obtain ⟨v, t, bi, bb, lo, hi, rfl, ht, h1, h2, k⟩ := h
    refine ⟨_, PSs.nox (pss_one (ps_ret (pe_and (pe_call GI hr (by rfl) gI FI.kp bI .nil pass0 (pa_cons (pv 0) pa_nil)) (pe_one (pe_chain op_le op_le (pv 1) (pv 0) (pv 2)))))), ?_⟩
    refine ⟨v, rfl, v, t, bi, bb, rfl, ht, h1, h2, (bi && !bb), rfl, ?_⟩
    rcases k with ⟨e, k⟩ | ⟨e, i, rfl, k⟩
    · rw [e]
      exact if_negB rfl k
    · rw [e]
      refine if_posB rfl ⟨_, rfl, _, rfl, lo, i, rfl, rfl, _, rfl, ?_⟩
      by_cases hle : lo ≤ i
      · refine if_posB (decide_eq_true hle) ⟨_, rfl, i, hi, rfl, rfl, ?_⟩
        rw [decide_eq_true hle] at k
        simpa using k
      · refine if_negB (decide_eq_false hle) ?_
        rw [decide_eq_false hle] at k
        simpa using k
end
end K9
set_option Elab.async false
set_option linter.all false
set_option maxRecDepth 100000
set_option maxHeartbeats 1000000
namespace K9
open PySem PySem.Spec PyProof.Rows L2 RV
def letB (c : Nat) : Bool := decide (97 ≤ c) && decide (c ≤ 122)
/-- 1 to 8 letters from a to z -/
def isFixB (x : Str) : Bool := decide (1 ≤ (x.length : Int)) && (decide ((x.length : Int) ≤ 8) && x.cps.toList.all letB)
theorem one_lt {a b : Nat} : ([a] < [b]) ↔ a < b := by
  rw [List.cons_lt_cons_iff]
  constructor
  · rintro (h | ⟨_, h⟩)
    · exact h
    · cases h
  · exact .inl
theorem yesB {σ : L2.St} {H : Hp} {F G : Hp → Prop} (h : F H) : tYes σ H (fun b H3 => if b = true then F H3 else G H3) := by
  show if true = true then F H else G H
  exact if_posB rfl h
theorem let_eq (c : Nat) : (!decide ([c] < [97]) && !decide ([122] < [c])) = letB c := by
  unfold letB
  have e1 : ([c] < [97]) ↔ c < 97 := one_lt
  have e2 : ([122] < [c]) ↔ 122 < c := one_lt
  rw [decide_eq_decide.mpr e1, decide_eq_decide.mpr e2, ← decide_not, ← decide_not, decide_eq_decide.mpr (Nat.not_lt), decide_eq_decide.mpr (Nat.not_lt)]
def spFix (K : PySem.W.Frag) : Sp := fun vs H Q _ => ∃ v, vs = [v] ∧ ((∃ x, v = .str x ∧ x.length ≤ 1000000 ∧ ∀ H', Same H H' → Q (.bl (isFixB x)) H') ∨ (∃ t, TyX K H v t ∧ PySem.W.kitOne K t (.type "str") = some false ∧ Q (.bl false) H))
section
variable {P : Program} {w : World} {K : PySem.W.Frag} {mg : Str → Option Value} {base : Heap} {f fI : Addr} {fd fdI : FuncData}
abbrev rLeS : R2 := fun x y H Q => ∃ i j, x = V.str i ∧ y = V.str j ∧ Q (V.bl (!decide (j.cps.toList < i.cps.toList))) H
abbrev scFix_N : List Str := ["value", "letter"]
theorem scFix : FnScope scFix_N ["value"] (defScope sFix) := ⟨rfl, rfl, rfl, by decide +kernel, rfl, by decide +kernel, by decide +kernel⟩
def teLet : TE := tChain rLeS rLeS (tC (.str "a")) (tVar 1) (tC (.str "z"))
theorem lets_read {σ : L2.St} {H : Hp} {Q : VK} {x : Str} (h0 : σ[0]? = some (some (.str x))) (hw : ∀ v, wipe ((wipe σ [1]).set 1 v) [1] = wipe σ [1]) (hi : ∀ v, ((wipe σ [1]).set 1 (some v))[1]? = some (some v)) (hz : x.length ≤ 1000000)
    (k : ∀ r H', Same H H' → H' r = some (.lst ((x.cps.toList.map letB).map V.bl)) → Q (.ref r) H') : tLc (iStr (tVar 0)) (gName 1) tYes teLet [1] σ H Q := by
  refine ⟨_, h0, x, rfl, fun D nD => lc_it walk_str (fun n H' => Same H H' ∧ H' D = some (.lst (((x.cps.toList.take n).map letB).map V.bl))) ⟨fun c o e => ?_, upd_same⟩ (fun _ _ _ _ => trivial) ?_ ?_⟩
  · rw [upd_ne (ne_of_none e nD)]
    exact e
  · rintro n v H1 H2 hn ⟨s1, hD⟩ ⟨rfl, c, hc, rfl⟩
    have hc2 : x.cps.toList[n]? = some c := by rw [Array.getElem?_toList]; exact hc
    obtain ⟨hl, hv⟩ := List.getElem?_eq_some_iff.mp hc2
    have more : x.cps.toList.take (n + 1) = x.cps.toList.take n ++ [c] := by
      rw [← hv]
      exact List.take_succ_eq_append_getElem hl
    have fin : ∀ b, b = letB c → ∃ acc, H2 D = some (.lst acc) ∧ acc.length < sizeLine ∧ (Same H (upd H2 D (.lst (acc ++ [V.bl b]))) ∧ upd H2 D (.lst (acc ++ [V.bl b])) D = some (.lst (((x.cps.toList.take (n + 1)).map letB).map V.bl))) := by
      rintro b rfl
      refine ⟨_, hD, ?_, ?_, ?_⟩
      · have : x.cps.toList.length = x.length := by simp [Str.length]
        rw [List.length_map, List.length_map, List.length_take, sizeLine_eq]
        omega
      · intro c o hc
        rw [upd_ne (ne_of_none hc nD)]
        exact s1 _ _ hc
      · rw [more, List.map_append, List.map_append]
        exact upd_same
    refine ⟨hw _, yesB ?_⟩
    refine ⟨_, hi _, "a", ⟨#[c]⟩, rfl, rfl, _, rfl, ?_⟩
    have ea : ("a" : Str).cps.toList = [97] := by decide +kernel
    have ez : ("z" : Str).cps.toList = [122] := by decide +kernel
    cases e : (!decide ((⟨#[c]⟩ : Str).cps.toList < ("a" : Str).cps.toList)) with
    | true =>
      refine if_posB rfl ⟨⟨#[c]⟩, "z", rfl, rfl, fin _ ?_⟩
      rw [← let_eq]
      rw [ea] at e
      rw [ez]
      have e' : (!decide ([c] < [97])) = true := e
      rw [e', Bool.true_and]
    | false =>
      refine if_negB rfl (fin _ ?_)
      rw [← let_eq]
      rw [ea] at e
      have e' : (!decide ([c] < [97])) = false := e
      rw [e', Bool.false_and]
  · rintro H1 ⟨s1, hD⟩
    rw [List.take_of_length_le (by simp)] at hD
    exact k D H1 s1 hD
theorem ok_fix (F : FnP K "is_fix" sFix f fd) (T : Blt2 mg) : FnOk P w K mg base CX0 1 f fd ["value"] (spFix K) := by
  refine F.ok scFix (fun vs H Q E h => ?_) (fun cdv A outer s H vs Q E hr h => ?_)
  · obtain ⟨v, rfl, _⟩ := h
    rfl
  · obtain ⟨v, rfl, k⟩ := h
    refine ⟨_, PSs.nox (pss_cons (ps_if (PW.pt (pw_or (pt_not (pt_val (pe_callB call_isi (by rfl) T.isi PyProof.Rows.boot_isinstance (pa_cons (pv 0) (pa_cons (pe_bltn (v := .ty "str") (by rfl) T.str boot_T rfl) pa_nil)))))
        (pw_or1 (pt_not (pt_chain op_le op_le pe_int (pe_callB call_len_str (by rfl) T.len PySem.boot_len (pa_cons (pv 0) pa_nil)) pe_int))))) (pss_one (ps_ret pe_bl)) pss_nil)
      (pss_one (ps_ret (pe_callB (cr_all rfl) (by rfl) T.all PyProof.Rows.boot_all (pa_cons (pe_lc (own := [("letter", 1)]) (g := gName 1) (tt := tYes) (te := teLet) rfl scFix.nd (pi_str (pv 0)) (blkOk_by (N := scFix_N) (sc := defScope sFix) (by decide +kernel))
        (fun _ _ _ _ _ => pg_name (i := 1) scFix.nd rfl (.inl rfl)) (fun _ _ _ _ _ => pts_nil) (fun _ _ _ _ _ => pe_chain op_le_str op_le_str pe_str (pv 1) pe_str)) pa_nil))))), ?_⟩
    rcases k with ⟨x, rfl, hz, k⟩ | ⟨t, ht, h1, k⟩
    · refine ⟨.str x, rfl, .str x, .ty "str", _, _, true, rfl, .ty _, .base (.str x), kit_ty (by decide +kernel), true, rfl, if_negB rfl ?_⟩
      refine ⟨.str x, rfl, x, rfl, by rw [sizeLine_eq]; omega, 1, _, rfl, rfl, _, rfl, ?_⟩
      by_cases h1 : (1 : Int) ≤ (x.length : Int)
      · refine if_posB (decide_eq_true h1) ⟨_, 8, rfl, rfl, _, rfl, ?_⟩
        by_cases h2 : (x.length : Int) ≤ 8
        · refine if_negB (by rw [decide_eq_true h2]; rfl) ?_
          show tLc (iStr (tVar 0)) (gName 1) tYes teLet [1] (L2.start scFix_N [.str x]) H fun r H1 => rAll K [r] H1 Q
          refine lets_read (by simp [L2.start]) (by intro v; simp [wipe, L2.start]) (by intro v; simp [wipe, L2.start]) hz fun r H' s' R => ⟨r, _, rfl, SqL.of R, ?_⟩
          have e : isFixB x = (x.cps.toList.map letB).all id := by
            unfold isFixB
            rw [decide_eq_true h1, decide_eq_true h2, Bool.true_and, Bool.true_and, List.all_map]
            rfl
          rw [← e]
          exact k H' s'
        · refine if_posB (by rw [decide_eq_false h2]; rfl) ?_
          have e : isFixB x = false := by
            unfold isFixB
            rw [decide_eq_false h2, Bool.false_and, Bool.and_false]
          rw [e] at k
          exact k H (fun _ _ z => z)
      · refine if_negB (decide_eq_false h1) ⟨_, rfl, if_posB rfl ?_⟩
        have e : isFixB x = false := by
          unfold isFixB
          rw [decide_eq_false h1, Bool.false_and]
        rw [e] at k
        exact k H (fun _ _ z => z)
    · exact ⟨v, rfl, v, .ty "str", _, _, false, rfl, .ty _, ht, h1, false, rfl, if_posB rfl (if_posB rfl k)⟩
end
end K9
set_option Elab.async false
set_option linter.all false
set_option maxRecDepth 100000
set_option maxHeartbeats 4000000
/-! Own exception classes whose __init__ keeps its one or two parameters as fields: made by position and by name. -/
namespace EI
open PySem PySem.Spec PyProof.Rows L2 EV He EF
/-- an error laid anew at a, its dict at d -/
def mkE (H : Hp) (a d C : Addr) (fs : List (Str × V)) : Hp := upd (upd H d (exd d fs)) a (exo a C (some d))
theorem mkE_at {H : Hp} {a d C : Addr} {fs : List (Str × V)} (h : d ≠ a) : ErrAt (mkE H a d C fs) a C d fs :=
  ⟨upd_same, by
    unfold mkE
    rw [upd_ne h, upd_same]⟩
theorem mkE_same {H : Hp} {a d C : Addr} {fs : List (Str × V)} (na : H a = none) (nd : H d = none) : Same H (mkE H a d C fs) := fun b o e => by
  unfold mkE
  rw [upd_ne (ne_of_none e na), upd_ne (ne_of_none e nd)]
  exact e
theorem _root_.EV.ErrAt.same {H H' : Hp} {a C d : Addr} {fs : List (Str × V)} (r : ErrAt H a C d fs) (k : Same H H') : ErrAt H' a C d fs := ⟨k _ _ r.ob, k _ _ r.dc⟩
theorem _root_.EV.IsErr.same {H H' : Hp} {a C : Addr} (r : IsErr H a C) (k : Same H H') : IsErr H' a C := by
  rcases r with ⟨d, fs, r⟩ | r
  · exact .inl ⟨d, fs, r.same k⟩
  · exact .inr (k _ _ r)
theorem mk1_eq {H : Hp} {a d C : Addr} {fs : List (Str × V)} {o : HO} (h : d ≠ a) : upd (upd (upd H a o) d (exd d fs)) a (exo a C (some d)) = mkE H a d C fs := by
  funext b
  unfold mkE
  by_cases e : b = a
  · rw [e, upd_same, upd_same]
  · rw [upd_ne e, upd_ne e]
    by_cases e2 : b = d
    · rw [e2, upd_same, upd_same]
    · rw [upd_ne e2, upd_ne e2, upd_ne e]
theorem mk2_eq {H : Hp} {a d C : Addr} {fs gs : List (Str × V)} {o : HO} (h : d ≠ a) : upd (upd (upd (upd H a o) d (exd d fs)) a (exo a C (some d))) d (exd d gs) = mkE H a d C gs := by
  funext b
  unfold mkE
  by_cases e2 : b = d
  · rw [e2, upd_same, upd_ne h, upd_same]
  · rw [upd_ne e2]
    by_cases e : b = a
    · rw [e, upd_same, upd_same]
    · rw [upd_ne e, upd_ne e, upd_ne e2, upd_ne e2, upd_ne e]
def spE1 (C : Addr) (f : Str) : Sp := fun vs H Q _ => ∃ (a : Addr) (v : V), vs = [.ref a, v] ∧ H a = some (exo a C none) ∧
  ∀ d, H d = none → d ≠ a → Q .non (upd (upd H d (exd d [(f, v)])) a (exo a C (some d)))
def spE2 (C : Addr) (f g : Str) : Sp := fun vs H Q _ => ∃ (a : Addr) (v w : V), vs = [.ref a, v, w] ∧ H a = some (exo a C none) ∧
  ∀ d, H d = none → d ≠ a → Q .non (upd (upd (upd H d (exd d [(f, v)])) a (exo a C (some d))) d (exd d [(g, w), (f, v)]))
/-- the body `self.f = f` -/
structure Body1 (st : Stmt) (f : Str) : Prop where
  bd : ∃ q1 q2 q3 q4, defBody st = [.Assign [.Attribute (.Name "self" q1) f q2] (.Name f q3) q4]
  sc : defScope st = { kind := .function, names := [("self", .local), (f, .local)], isGenerator := false, isCoroutine := false, more := [] }
  kb : ∀ (qual : Str) (kV doc pm : Value) (an : Option Addr) (cdv ct a v : Value), bindArgs (PySem.W.fnOf "__init__" qual (defArgs st) (defBody st) (defScope st) .none kV doc pm an cdv ct) ⟨[a], [(f, v)]⟩ = pure [(("self" : Str), a), (f, v)]
  pb : ∀ (qual : Str) (kV doc pm : Value) (an : Option Addr) (cdv ct a v : Value), bindArgs (PySem.W.fnOf "__init__" qual (defArgs st) (defBody st) (defScope st) .none kV doc pm an cdv ct) ⟨[a, v], []⟩ = pure [(("self" : Str), a), (f, v)]
  ne : f ≠ "self"
  n1 : (f == ("__debug__" : Str)) = false
  n2 : (f == ("__classdict__" : Str)) = false
section
variable {P : Program} {w : World} {K : PySem.W.Frag} {mg : Str → Option Value} {base : Heap} {fI : Addr} {fd : FuncData} {C : Addr} {f g qual : Str} {st : Stmt}
theorem sc1 (B : Body1 st f) : FnScope ["self", f] ["self", f] (defScope st) := by
  rw [B.sc]
  refine ⟨rfl, rfl, rfl, ?_, rfl, ?_, by simp⟩
  · simp [B.ne.symm]
  · intro x hx
    rcases List.mem_cons.mp hx with rfl | hx
    · exact .inl rfl
    · rcases List.mem_cons.mp hx with rfl | hx
      · refine .inl ?_
        show List.lookup x [(("self" : Str), NameKind.local), (x, NameKind.local)] = _
        have e : (x == ("self" : Str)) = false := by simpa using B.ne
        simp [List.lookup, e]
      · cases hx
theorem vis1 (B : Body1 st f) : Vis (defScope st) f := by
  have := (sc1 B).par f (by simp)
  rcases this with h | h
  · exact .inl h
  · exact .inr (.inl h)
theorem vis0 (B : Body1 st f) : Vis (defScope st) "self" := by
  rw [B.sc]
  exact .inl rfl
theorem ok_init1 (F : FunD K "__init__" qual (defArgs st) (defBody st) (defScope st) [] [] fI fd) (B : Body1 st f) (T : OexC K C) (no : PySem.W.findIn K (.ref C) f = some none) :
    FnOk P w K mg base CX0 1 fI fd ["self", f] (spE1 C f) := by
  refine F.ok (sc1 B) (fun vs H Q E h => ?_) (fun cdv A outer s H vs Q E hr h => ?_)
  · obtain ⟨a, v, rfl, _⟩ := h
    rfl
  · obtain ⟨a, v, rfl, ha, k⟩ := h
    obtain ⟨q1, q2, q3, q4, eb⟩ := B.bd
    rw [eb]
    refine ⟨_, PSs.nox (pss_one (ps_ost (pe_var (i := 0) rfl (vis0 B)) (pe_var (i := 1) rfl (vis1 B) B.n1 B.n2))), ?_⟩
    exact ⟨v, rfl, _, rfl, a, C, rfl, T, no, .inl ⟨ha, fun d hd ne => k d hd ne⟩⟩
/-- how a call binds -/
theorem kw1 (F : FunD K "__init__" qual (defArgs st) (defBody st) (defScope st) [] [] fI fd) (B : Body1 st f) (s : Shared) (a v : Value) : BindsTo s fd ⟨[a], [(f, v)]⟩ [(("self" : Str), a), (f, v)] := by
  obtain ⟨oc, od, dV, kV, doc, pm, an, cdv, ct, osl, rfl, lk, hcd, hD, hK⟩ := F.ex
  rcases hD with ⟨_, rfl⟩ | ⟨e, _⟩
  · exact .of_eq (B.kb _ _ _ _ _ _ _ _ _)
  · exact absurd rfl e
theorem pos1 (F : FunD K "__init__" qual (defArgs st) (defBody st) (defScope st) [] [] fI fd) (B : Body1 st f) : Binds K fd ["self", f] [] :=
  F.bindsN fun _ _ _ _ _ _ us hl => match us, hl with | [_, _], _ => B.pb _ _ _ _ _ _ _ _ _
end
/-- what is known of such a class x with the field f -/
structure Cl1 (P : Program) (w : World) (K : PySem.W.Frag) (mg : Str → Option Value) (base : Heap) (x f : Str) (bs : List Str) : Prop where
  e : ErrK K x bs
  mkr : ∃ (fI : Addr) (fd : FuncData), PySem.W.findIn K (.ref (ga K x)) "__init__" = some (some (.ref fI)) ∧ PySem.W.typeIn K (.ref fI) = some (.type "function") ∧
    FnOk P w K mg base CX0 1 fI fd ["self", f] (spE1 (ga K x) f) ∧ Binds K fd ["self", f] [] ∧ ∀ (s : Shared) (a v : Value), BindsTo s fd ⟨[a], [(f, v)]⟩ [(("self" : Str), a), (f, v)]
  no : PySem.W.findIn K (.ref (ga K x)) f = some none
  gl : mg x = some (.ref (ga K x))
/-- x(e) | x(f = e): a new error -/
def tE1 (C : Addr) (f : Str) (te : TE) : TE := fun σ H Q => te σ H fun v H1 => ∀ a d, H1 a = none → H1 d = none → d ≠ a → Q (.ref a) (mkE H1 a d C [(f, v)])
def wE1 (C : Addr) (f : Str) (Q : VK) : List V → Hp → Prop := fun vs H1 => match vs with
  | [v] => ∀ a d, H1 a = none → H1 d = none → d ≠ a → Q (.ref a) (mkE H1 a d C [(f, v)])
  | _ => False
theorem wE1_of {C : Addr} {f : Str} {Q : VK} : ∀ {vs : List V} {H1 : Hp}, wE1 C f Q vs H1 → ∃ v, vs = [v] ∧ ∀ a d, H1 a = none → H1 d = none → d ≠ a → Q (.ref a) (mkE H1 a d C [(f, v)])
  | [v], _, h => ⟨v, rfl, h⟩
  | [], _, h => h.elim
  | _ :: _ :: _, _, h => h.elim
section
variable {X : Cx} {x f : Str} {bs : List Str} {e : Expr} {te : TE} {p pos kpos : Pos} {k : Nat}
theorem tE1_to {C : Addr} {f : Str} {H1 : Hp} {v : V} {Q : VK} (q : ∀ a d, H1 a = none → H1 d = none → d ≠ a → Q (.ref a) (mkE H1 a d C [(f, v)])) (a : Addr) (ha : H1 a = none) :
    spE1 C f [.ref a, v] (upd H1 a (exo a C none)) (fun u H2 => u = .non ∧ Q (.ref a) H2) E0 := by
  refine ⟨a, v, rfl, upd_same, fun d hd ne => ⟨rfl, ?_⟩⟩
  rw [upd_ne ne] at hd
  rw [mk1_eq ne]
  exact q a d ha hd ne
theorem pe_e1 (T : Cl1 X.prog X.w X.K X.mg X.base x f bs) (hr : Room 2 X.A) (hc : Passes CX0 X E0) (hg : Gl X x) (he : PE X e te)
    (hdb : (x == ("__debug__" : Str)) = false := by decide) (hs : starEach [e] X.env = (false, eval e X.env) :: starEach [] X.env := by rfl)
    (hpl : (backTo pos (starEach [] X.env)).any (·.1) = false := by rfl) : PE X (.Call (.Name x p) [e] [] pos) (tE1 (ga X.K x) f te) := by
  obtain ⟨fI, fd, iC, tI, F1, b1, _⟩ := T.mkr
  refine ⟨fun pins s σ H Q I h => ?_⟩
  refine wpAny_Call_Name_kw (ld_glob I hg T.gl ?_ hdb)
  refine PySem.W.callWith_K (h₀ := X.base) I.ok.mod.kin T.e.ox.kC (thn ((pa_cons he pa_nil (hs := hs)).run pos pins s σ H (wE1 (ga X.K x) f Q) I h) fun us s1 ⟨vs, H1, I1, r1, q1⟩ => ⟨I1.kIn, ?_⟩) hs hpl
  obtain ⟨v, rfl, q⟩ := wE1_of q1
  show wpAny _ _ (call (.ref (ga X.K x)) us) _ _ _
  refine run_err T.e.ox iC tI F1 hr (fun s' a X' => ?_) hc I1 r1 ?_ (fun a ha => tE1_to q a ha)
  · have hl : us.length = 1 := r1.length.symm
    have z := b1 s' (.ref a :: us) X' (by rw [List.append_nil, List.length_cons, hl]; rfl)
    rw [List.append_nil] at z
    exact z
  · rw [← r1.length, sizeLine_eq]
    exact (by decide : 1 ≤ 16777216)
theorem pe_e1K (T : Cl1 X.prog X.w X.K X.mg X.base x f bs) (hr : Room 2 X.A) (hc : Passes CX0 X E0) (hg : Gl X x) (he : PE X e te)
    (hall : (backToKw pos (keywordEach [⟨some f, e, kpos⟩] X.env)).all (·.1.isSome) = true := by rfl)
    (hks : (backToKw pos (keywordEach [⟨some f, e, kpos⟩] X.env)).filterMap (·.1) = [f] := by rfl)
    (hdb : (x == ("__debug__" : Str)) = false := by decide)
    (hpl : ((backTo pos (starEach [] X.env)).any (·.1) || (backToKw pos (keywordEach [⟨some f, e, kpos⟩] X.env)).any (·.1.isNone)) = false := by rfl) :
    PE X (.Call (.Name x p) [] [⟨some f, e, kpos⟩] pos) (tE1 (ga X.K x) f te) := by
  obtain ⟨fI, fd, iC, tI, F1, b1, bk⟩ := T.mkr
  refine ⟨fun pins s σ H Q I h => ?_⟩
  refine wpAny_Call_Name_kw (ld_glob I hg T.gl ?_ hdb)
  refine PySem.W.callWith_KW0 (h₀ := X.base) I.ok.mod.kin T.e.ox.kC hall ?_ hpl
  refine thn ((pk_cons he pk_nil).run pos pins s σ H (wE1 (ga X.K x) f Q) I h) fun ws s2 ⟨zs, H2, I2, rz, q2⟩ => ⟨I2.kIn, ?_⟩
  rw [hks]
  obtain ⟨v, rfl, q⟩ := wE1_of q2
  refine run_err T.e.ox iC tI F1 hr (fun s' a X' => ?_) hc I2 rz (Nat.zero_le _) (fun a ha => tE1_to q a ha)
  cases rz with
  | cons r1 r2 =>
    cases r2
    exact bk s' _ _
end
/-! ### two fields -/
/-- the body `self.f = f; self.g = g` -/
structure Body2 (st : Stmt) (f g : Str) : Prop where
  bd : ∃ q1 q2 q3 q4 r1 r2 r3 r4, defBody st = [.Assign [.Attribute (.Name "self" q1) f q2] (.Name f q3) q4, .Assign [.Attribute (.Name "self" r1) g r2] (.Name g r3) r4]
  sc : FnScope ["self", f, g] ["self", f, g] (defScope st)
  v0 : Vis (defScope st) "self"
  v1 : Vis (defScope st) f
  v2 : Vis (defScope st) g
  kb : ∀ (qual : Str) (kV doc pm : Value) (an : Option Addr) (cdv ct a v w : Value), bindArgs (PySem.W.fnOf "__init__" qual (defArgs st) (defBody st) (defScope st) .none kV doc pm an cdv ct) ⟨[a], [(g, w), (f, v)]⟩ = pure [(("self" : Str), a), (f, v), (g, w)]
  pb : ∀ (qual : Str) (kV doc pm : Value) (an : Option Addr) (cdv ct a v w : Value), bindArgs (PySem.W.fnOf "__init__" qual (defArgs st) (defBody st) (defScope st) .none kV doc pm an cdv ct) ⟨[a, v, w], []⟩ = pure [(("self" : Str), a), (f, v), (g, w)]
  n1 : (f == ("__debug__" : Str)) = false
  n2 : (f == ("__classdict__" : Str)) = false
  n3 : (g == ("__debug__" : Str)) = false
  n4 : (g == ("__classdict__" : Str)) = false
section
variable {P : Program} {w : World} {K : PySem.W.Frag} {mg : Str → Option Value} {base : Heap} {fI : Addr} {fd : FuncData} {C : Addr} {f g qual : Str} {st : Stmt}
theorem ok_init2 (F : FunD K "__init__" qual (defArgs st) (defBody st) (defScope st) [] [] fI fd) (B : Body2 st f g) (T : OexC K C) (no : PySem.W.findIn K (.ref C) f = some none) (no2 : PySem.W.findIn K (.ref C) g = some none) :
    FnOk P w K mg base CX0 1 fI fd ["self", f, g] (spE2 C f g) := by
  refine F.ok B.sc (fun vs H Q E h => ?_) (fun cdv A outer s H vs Q E hr h => ?_)
  · obtain ⟨a, v, u, rfl, _⟩ := h
    rfl
  · obtain ⟨a, v, u, rfl, ha, k⟩ := h
    obtain ⟨q1, q2, q3, q4, r1, r2, r3, r4, eb⟩ := B.bd
    rw [eb]
    refine ⟨_, PSs.nox (pss_cons (ps_ost (pe_var (i := 0) rfl B.v0) (pe_var (i := 1) rfl B.v1 B.n1 B.n2)) (pss_one (ps_ost (pe_var (i := 0) rfl B.v0) (pe_var (i := 2) rfl B.v2 B.n3 B.n4)))), ?_⟩
    refine ⟨v, rfl, _, rfl, a, C, rfl, T, no, .inl ⟨ha, fun d hd ne => ?_⟩⟩
    exact ⟨u, rfl, _, rfl, a, C, rfl, T, no2, .inr ⟨d, _, upd_same, by rw [upd_ne ne, upd_same], (by show 1 ≤ 900; decide), k d hd ne⟩⟩
theorem kw2 (F : FunD K "__init__" qual (defArgs st) (defBody st) (defScope st) [] [] fI fd) (B : Body2 st f g) (s : Shared) (a v u : Value) : BindsTo s fd ⟨[a], [(g, u), (f, v)]⟩ [(("self" : Str), a), (f, v), (g, u)] := by
  obtain ⟨oc, od, dV, kV, doc, pm, an, cdv, ct, osl, rfl, lk, hcd, hD, hK⟩ := F.ex
  rcases hD with ⟨_, rfl⟩ | ⟨e, _⟩
  · exact .of_eq (B.kb _ _ _ _ _ _ _ _ _ _)
  · exact absurd rfl e
theorem pos2 (F : FunD K "__init__" qual (defArgs st) (defBody st) (defScope st) [] [] fI fd) (B : Body2 st f g) : Binds K fd ["self", f, g] [] :=
  F.bindsN fun _ _ _ _ _ _ us hl => match us, hl with | [_, _, _], _ => B.pb _ _ _ _ _ _ _ _ _ _
end
structure Cl2 (P : Program) (w : World) (K : PySem.W.Frag) (mg : Str → Option Value) (base : Heap) (x f g : Str) (bs : List Str) : Prop where
  e : ErrK K x bs
  mkr : ∃ (fI : Addr) (fd : FuncData), PySem.W.findIn K (.ref (ga K x)) "__init__" = some (some (.ref fI)) ∧ PySem.W.typeIn K (.ref fI) = some (.type "function") ∧
    FnOk P w K mg base CX0 1 fI fd ["self", f, g] (spE2 (ga K x) f g) ∧ Binds K fd ["self", f, g] [] ∧ ∀ (s : Shared) (a v u : Value), BindsTo s fd ⟨[a], [(g, u), (f, v)]⟩ [(("self" : Str), a), (f, v), (g, u)]
  no : PySem.W.findIn K (.ref (ga K x)) f = some none
  no2 : PySem.W.findIn K (.ref (ga K x)) g = some none
  gl : mg x = some (.ref (ga K x))
def wE2 (C : Addr) (f g : Str) (Q : VK) : List V → Hp → Prop := fun vs H1 => match vs with
  | [v, u] => ∀ a d, H1 a = none → H1 d = none → d ≠ a → Q (.ref a) (mkE H1 a d C [(g, u), (f, v)])
  | _ => False
theorem wE2_of {C : Addr} {f g : Str} {Q : VK} : ∀ {vs : List V} {H1 : Hp}, wE2 C f g Q vs H1 → ∃ v u, vs = [v, u] ∧ ∀ a d, H1 a = none → H1 d = none → d ≠ a → Q (.ref a) (mkE H1 a d C [(g, u), (f, v)])
  | [v, u], _, h => ⟨v, u, rfl, h⟩
  | [], _, h => h.elim
  | [_], _, h => h.elim
  | _ :: _ :: _ :: _, _, h => h.elim
section
variable {X : Cx} {x f g : Str} {bs : List Str} {e e2 : Expr} {te te2 : TE} {p pos kpos kpos2 : Pos} {k : Nat}
theorem tE2_to {C : Addr} {f g : Str} {H1 : Hp} {v u : V} {Q : VK} (q : ∀ a d, H1 a = none → H1 d = none → d ≠ a → Q (.ref a) (mkE H1 a d C [(g, u), (f, v)])) (a : Addr) (ha : H1 a = none) :
    spE2 C f g [.ref a, v, u] (upd H1 a (exo a C none)) (fun z H2 => z = .non ∧ Q (.ref a) H2) E0 := by
  refine ⟨a, v, u, rfl, upd_same, fun d hd ne => ⟨rfl, ?_⟩⟩
  rw [upd_ne ne] at hd
  rw [mk2_eq ne]
  exact q a d ha hd ne
/-- x(e, e2) -/
theorem pe_e2 (T : Cl2 X.prog X.w X.K X.mg X.base x f g bs) (hr : Room 2 X.A) (hc : Passes CX0 X E0) (hg : Gl X x) (he : PE X e te) (he2 : PE X e2 te2)
    (hdb : (x == ("__debug__" : Str)) = false := by decide) (hs : starEach [e, e2] X.env = (false, eval e X.env) :: starEach [e2] X.env := by rfl) (hs2 : starEach [e2] X.env = (false, eval e2 X.env) :: starEach [] X.env := by rfl)
    (hpl : (backTo pos (starEach [e2] X.env)).any (·.1) = false := by rfl) :
    PE X (.Call (.Name x p) [e, e2] [] pos) (fun σ H Q => te σ H fun v H1 => te2 σ H1 fun u H2 => wE2 (ga X.K x) f g Q [v, u] H2) := by
  obtain ⟨fI, fd, iC, tI, F1, b1, _⟩ := T.mkr
  refine ⟨fun pins s σ H Q I h => ?_⟩
  refine wpAny_Call_Name_kw (ld_glob I hg T.gl ?_ hdb)
  refine PySem.W.callWith_K (h₀ := X.base) I.ok.mod.kin T.e.ox.kC (thn ((pa_cons he (pa_cons he2 pa_nil (hs := hs2)) (hs := hs)).run pos pins s σ H (wE2 (ga X.K x) f g Q) I h) fun us s1 ⟨vs, H1, I1, r1, q1⟩ => ⟨I1.kIn, ?_⟩) hs hpl
  obtain ⟨v, u, rfl, q⟩ := wE2_of q1
  show wpAny _ _ (call (.ref (ga X.K x)) us) _ _ _
  refine run_err T.e.ox iC tI F1 hr (fun s' a X' => ?_) hc I1 r1 ?_ (fun a ha => tE2_to q a ha)
  · have hl : us.length = 2 := r1.length.symm
    have z := b1 s' (.ref a :: us) X' (by rw [List.append_nil, List.length_cons, hl]; rfl)
    rw [List.append_nil] at z
    exact z
  · rw [← r1.length, sizeLine_eq]
    exact (by decide : 2 ≤ 16777216)
/-- x(g = e, f = e2) -/
theorem pe_e2K (T : Cl2 X.prog X.w X.K X.mg X.base x f g bs) (hr : Room 2 X.A) (hc : Passes CX0 X E0) (hg : Gl X x) (he : PE X e te) (he2 : PE X e2 te2)
    (hall : (backToKw pos (keywordEach [⟨some g, e, kpos⟩, ⟨some f, e2, kpos2⟩] X.env)).all (·.1.isSome) = true := by rfl)
    (hks : (backToKw pos (keywordEach [⟨some g, e, kpos⟩, ⟨some f, e2, kpos2⟩] X.env)).filterMap (·.1) = [g, f] := by rfl)
    (hdb : (x == ("__debug__" : Str)) = false := by decide)
    (hpl : ((backTo pos (starEach [] X.env)).any (·.1) || (backToKw pos (keywordEach [⟨some g, e, kpos⟩, ⟨some f, e2, kpos2⟩] X.env)).any (·.1.isNone)) = false := by rfl) :
    PE X (.Call (.Name x p) [] [⟨some g, e, kpos⟩, ⟨some f, e2, kpos2⟩] pos) (fun σ H Q => te σ H fun u H1 => te2 σ H1 fun v H2 => wE2 (ga X.K x) f g Q [v, u] H2) := by
  obtain ⟨fI, fd, iC, tI, F1, b1, bk⟩ := T.mkr
  refine ⟨fun pins s σ H Q I h => ?_⟩
  refine wpAny_Call_Name_kw (ld_glob I hg T.gl ?_ hdb)
  refine PySem.W.callWith_KW0 (h₀ := X.base) I.ok.mod.kin T.e.ox.kC hall ?_ hpl
  refine thn ((pk_cons he (pk_cons he2 pk_nil)).run pos pins s σ H (fun zs H2 => match zs with
    | [u, v] => wE2 (ga X.K x) f g Q [v, u] H2
    | _ => False) I h) fun ws s2 ⟨zs, H2, I2, rz, q2⟩ => ⟨I2.kIn, ?_⟩
  rw [hks]
  cases rz with
  | nil => exact q2.elim
  | cons r1 rz => cases rz with
    | nil => exact q2.elim
    | cons r2 rz => cases rz with
      | cons r3 rz => exact q2.elim
      | nil =>
        obtain ⟨v, u, e, q⟩ := wE2_of q2
        cases e
        exact run_err T.e.ox iC tI F1 hr (fun s' a X' => bk s' _ _ _) hc I2 (.cons r2 (.cons r1 .nil)) (Nat.zero_le _) (fun a ha => tE2_to q a ha)
end
end EI
set_option Elab.async false
set_option linter.all false
set_option maxRecDepth 100000
set_option maxHeartbeats 1000000
/-! What the head's facts say of the row: errors, deeds, the defs. -/
namespace K9
open PySem PySem.Spec PyProof.Rows L2 RV EV He EF EI
/-- the __init__ of a deed's class, as it stands -/
abbrev IniD (K : PySem.W.Frag) (q : Str × Nat) (fd : FuncData) : Prop := FunD K "__init__" (q.1 ++ ".__init__") (defArgs (iSt q.2)) (defBody (iSt q.2)) (defScope (iSt q.2)) ((dMk q).dvs K) ((dMk q).kws K) (ma K (ga K q.1) "__init__") fd
structure KF (P : Program) (w : World) (K : PySem.W.Frag) (mg : Str → Option Value) (base : Heap) : Prop where
  fr : ∀ x ∈ freesN, mg x = none
  ek : ∀ q ∈ errsN, ErrK K q.1 q.2
  gl : ∀ q ∈ errsN, mg q.1 = some (.ref (ga K q.1))
  bd : Cl1 P w K mg base "BadDeed" "at" bT
  bf : Cl1 P w K mg base "BadFix" "value" bT
  nd : Cl1 P w K mg base "NoDay" "day" bT
  nl : Cl1 P w K mg base "NoLine" "line" bT
  tops : ∀ q ∈ topsN, ∃ fd, FnP K q.1 (top q.2) (ga K q.1) fd ∧ mg q.1 = some (.ref (ga K q.1))
  topd : ∀ q ∈ topsD, ∃ fd, FunD K q.1 q.1 (defArgs (top q.2)) (defBody (top q.2)) (defScope (top q.2)) [.int 1] [] (ga K q.1) fd ∧ mg q.1 = some (.ref (ga K q.1))
  gk : ∀ q ∈ mkN, mg q.1 = some (.ref (ga K q.1)) ∧ Cls K (ga K q.1) ∧ Mk K (ga K q.1) (ma K (ga K q.1) "__init__")
  ik : ∀ q ∈ mkN, ∃ fd, IniD K q fd
  no : ∀ q ∈ noN, NoAttr K (ga K q.1) q.2
  iL : ∃ t, mg "LINES" = some (.int 6 t)
  iD : ∃ t, mg "DAYS" = some (.int 200 t)
  gc : mg "Cut" = some (.ref (ga K "Cut"))
  cc : Cls K (ga K "Cut")
  kc : PySem.W.keepIn K (.ref (ga K "Cut")) = true
  dd : ∀ q ∈ deedN, Meth K (ga K "Cut") q.1 (ma K (ga K "Cut") q.1) ∧ ∃ fd, FunD K q.1 ("Deed." ++ q.1) (defArgs (dSt q.2)) (defBody (dSt q.2)) (defScope (dSt q.2)) [] [] (ma K (ga K "Cut") q.1) fd
  cut : cutB K = true
  tn : (tabN.map fun p => (cT K p).2).Nodup
  xE : ∀ q ∈ errsN, PySem.W.exmOne K (.ref (ga K q.1)) (.ref (ga K "EditionError")) = some true
  ob : objB K = true
  ea : (errsN.map fun q => ga K q.1).Nodup
theorem b_deed : Body1 (inClass (top 10) 0) "at" := ⟨⟨_, _, _, _, rfl⟩, rfl, fun _ _ _ _ _ _ _ _ _ => rfl, fun _ _ _ _ _ _ _ _ _ => rfl, by decide, by decide, by decide⟩
theorem b_fix : Body1 (inClass (top 11) 0) "value" := ⟨⟨_, _, _, _, rfl⟩, rfl, fun _ _ _ _ _ _ _ _ _ => rfl, fun _ _ _ _ _ _ _ _ _ => rfl, by decide, by decide, by decide⟩
theorem b_day : Body1 (inClass (top 13) 0) "day" := ⟨⟨_, _, _, _, rfl⟩, rfl, fun _ _ _ _ _ _ _ _ _ => rfl, fun _ _ _ _ _ _ _ _ _ => rfl, by decide, by decide, by decide⟩
theorem b_line : Body1 (inClass (top 14) 0) "line" := ⟨⟨_, _, _, _, rfl⟩, rfl, fun _ _ _ _ _ _ _ _ _ => rfl, fun _ _ _ _ _ _ _ _ _ => rfl, by decide, by decide, by decide⟩
theorem kf {P : Program} {w : World} {K : PySem.W.Frag} {h h' : Heap} {mg : Str → Option Value} (X : K.In h) (G : h.Ns mainGlobals mg) (cy : SaysY w h' K) (base : Heap) : KF P w K mg base := by
  have c := cy.x
  have z : exS K = true := c.more
  obtain ⟨zea, z⟩ := ba z
  obtain ⟨zcut, z⟩ := ba z
  obtain ⟨ztn, z⟩ := ba z
  obtain ⟨zob, z⟩ := ba z
  obtain ⟨zer, z⟩ := ba z
  obtain ⟨zin, zx⟩ := ba z
  have S : SaysD fas fns K := c.t.d
  have fact : ∀ {f : Fa}, f ∈ fas → f.ok K = true := fun h => S.facts h
  have m1 : ∀ {f : Fa}, f ∈ (freesN.map Fa.free) → f ∈ fas := fun h => by unfold fas; simp only [List.mem_append]; simp only [h, true_or]
  have m2 : ∀ {f : Fa}, f ∈ (topsN.map fun q => Fa.glo q.1) → f ∈ fas := fun h => by unfold fas; simp only [List.mem_append]; simp only [h, true_or, or_true]
  have m2d : ∀ {f : Fa}, f ∈ (topsD.map fun q => Fa.glo q.1) → f ∈ fas := fun h => by unfold fas; simp only [List.mem_append]; simp only [h, true_or, or_true]
  have m3 : ∀ {f : Fa}, f ∈ (deedN.map fun q => Fa.meth "Cut" q.1) → f ∈ fas := fun h => by unfold fas; simp only [List.mem_append]; simp only [h, true_or, or_true]
  have m7 : ∀ {f : Fa}, f ∈ (mkN.map fun q => Fa.glo q.1) → f ∈ fas := fun h => by unfold fas; simp only [List.mem_append]; simp only [h, true_or, or_true]
  have m8 : ∀ {f : Fa}, f ∈ (mkN.map fun q => Fa.cls q.1) → f ∈ fas := fun h => by unfold fas; simp only [List.mem_append]; simp only [h, true_or, or_true]
  have m9 : ∀ {f : Fa}, f ∈ (mkN.map fun q => Fa.mkr q.1) → f ∈ fas := fun h => by unfold fas; simp only [List.mem_append]; simp only [h, true_or, or_true]
  have m10 : ∀ {f : Fa}, f ∈ (noN.map fun q => Fa.noat q.1 q.2) → f ∈ fas := fun h => by unfold fas; simp only [List.mem_append]; simp only [h, true_or, or_true]
  have m4 : ∀ {f : Fa}, f ∈ ([.glo "Cut", .cls "Cut", .keep "Cut", .int "LINES" 6, .int "DAYS" 200] : List Fa) → f ∈ fas := fun h => List.mem_append_right _ h
  have hek : ∀ q ∈ errsN, ErrK K q.1 q.2 := fun q hq => errB_ok (List.all_eq_true.mp zer q hq) zob
  have hgl : ∀ q ∈ errsN, mg q.1 = some (.ref (ga K q.1)) := fun q hq => PySem.W.mg_of X G (hek q hq).nm
  have d1 : ∀ {d : DefD}, d ∈ (topsN.map dTop) → d ∈ fns := fun h => by unfold fns; simp only [List.mem_append]; simp only [h, true_or, or_true]
  have d1d : ∀ {d : DefD}, d ∈ (topsD.map dTopD) → d ∈ fns := fun h => by unfold fns; simp only [List.mem_append]; simp only [h, true_or, or_true]
  have d3 : ∀ {d : DefD}, d ∈ (deedN.map dDeed) → d ∈ fns := fun h => by unfold fns; simp only [List.mem_append]; simp only [h, true_or, or_true]
  have d7 : ∀ {d : DefD}, d ∈ (mkN.map dMk) → d ∈ fns := fun h => by unfold fns; simp only [List.mem_append]; simp only [h, true_or, or_true]
  have d5 : ∀ {d : DefD}, d ∈ (iniN.map fun q => dInitE q.1 q.2.1) → d ∈ fns := fun h => List.mem_append_right _ h
  have one : ∀ q ∈ iniN, PySem.W.findIn K (.ref (ga K q.1)) "__init__" = some (some (.ref (ma K (ga K q.1) "__init__"))) ∧ PySem.W.typeIn K (.ref (ma K (ga K q.1) "__init__")) = some (.type "function") ∧ (∀ f ∈ q.2.2, PySem.W.findIn K (.ref (ga K q.1)) f = some none) ∧
      ∃ fd, FunD K "__init__" (q.1 ++ ".__init__") (defArgs (inClass (top q.2.1) 0)) (defBody (inClass (top q.2.1) 0)) (defScope (inClass (top q.2.1) 0)) [] [] (ma K (ga K q.1) "__init__") fd := fun q hq => by
    obtain ⟨i1, i⟩ := ba (List.all_eq_true.mp zin q hq)
    obtain ⟨i2, i3⟩ := ba i
    exact ⟨eqO_ok i1, of_decide_eq_true i2, fun f hf => eqO_ok (List.all_eq_true.mp i3 f hf), S.defs (d5 (List.mem_map_of_mem (f := fun q : Str × Nat × List Str => dInitE q.1 q.2.1) hq))⟩
  refine {
    fr := fun x hx => free_ok X G (fact (m1 (List.mem_map_of_mem hx))), ek := hek, gl := hgl, bd := ?_, bf := ?_, nd := ?_, nl := ?_, tops := fun q hq => ?_, topd := fun q hq => ?_,
    gk := fun q hq => ⟨glo_ok X G (fact (m7 (List.mem_map_of_mem (f := fun q : Str × Nat => Fa.glo q.1) hq))), cls_ok (fact (m8 (List.mem_map_of_mem (f := fun q : Str × Nat => Fa.cls q.1) hq))), mkr_ok (fact (m9 (List.mem_map_of_mem (f := fun q : Str × Nat => Fa.mkr q.1) hq)))⟩,
    ik := fun q hq => S.defs (d7 (List.mem_map_of_mem (f := dMk) hq)), no := fun q hq => noat_ok (fact (m10 (List.mem_map_of_mem (f := fun q : Str × Str => Fa.noat q.1 q.2) hq))),
    iL := int_ok X G (fact (m4 (by simp))), iD := int_ok X G (fact (m4 (by simp))), gc := glo_ok X G (fact (m4 (by simp))), cc := cls_ok (fact (m4 (by simp))), kc := fact (f := .keep "Cut") (m4 (by simp)), dd := fun q hq => ⟨?_, ?_⟩, cut := zcut,
    tn := of_decide_eq_true ztn, xE := fun q hq => of_decide_eq_true (List.all_eq_true.mp zx q hq), ob := zob, ea := of_decide_eq_true zea }
  · obtain ⟨i1, i2, i3, fd, F⟩ := one ("BadDeed", 10, ["at"]) (by decide)
    have E := hek ("BadDeed", bT) (by decide)
    exact ⟨E, ⟨_, fd, i1, i2, ok_init1 F b_deed E.ox (i3 "at" (by decide)), pos1 F b_deed, kw1 F b_deed⟩, i3 "at" (by decide), hgl ("BadDeed", bT) (by decide)⟩
  · obtain ⟨i1, i2, i3, fd, F⟩ := one ("BadFix", 11, ["value"]) (by decide)
    have E := hek ("BadFix", bT) (by decide)
    exact ⟨E, ⟨_, fd, i1, i2, ok_init1 F b_fix E.ox (i3 "value" (by decide)), pos1 F b_fix, kw1 F b_fix⟩, i3 "value" (by decide), hgl ("BadFix", bT) (by decide)⟩
  · obtain ⟨i1, i2, i3, fd, F⟩ := one ("NoDay", 13, ["day"]) (by decide)
    have E := hek ("NoDay", bT) (by decide)
    exact ⟨E, ⟨_, fd, i1, i2, ok_init1 F b_day E.ox (i3 "day" (by decide)), pos1 F b_day, kw1 F b_day⟩, i3 "day" (by decide), hgl ("NoDay", bT) (by decide)⟩
  · obtain ⟨i1, i2, i3, fd, F⟩ := one ("NoLine", 14, ["line"]) (by decide)
    have E := hek ("NoLine", bT) (by decide)
    exact ⟨E, ⟨_, fd, i1, i2, ok_init1 F b_line E.ox (i3 "line" (by decide)), pos1 F b_line, kw1 F b_line⟩, i3 "line" (by decide), hgl ("NoLine", bT) (by decide)⟩
  · obtain ⟨fd, F⟩ := S.defs (d1 (List.mem_map_of_mem (f := dTop) hq))
    exact ⟨fd, F, glo_ok X G (fact (m2 (List.mem_map_of_mem (f := fun q : Str × Nat => Fa.glo q.1) hq)))⟩
  · obtain ⟨fd, F⟩ := S.defs (d1d (List.mem_map_of_mem (f := dTopD) hq))
    exact ⟨fd, F, glo_ok X G (fact (m2d (List.mem_map_of_mem (f := fun q : Str × Nat => Fa.glo q.1) hq)))⟩
  · exact meth_ok (fact (m3 (List.mem_map_of_mem (f := fun q : Str × Nat => Fa.meth "Cut" q.1) hq)))
  · exact S.defs (d3 (List.mem_map_of_mem (f := dDeed) hq))
theorem mk3_eq {H : Hp} {a d C : Addr} {fs : List (Str × V)} (na : H a = none) (h : d ≠ a) : upd (L2.del (mkE H a d C fs) a) d (.xd fs) = upd H d (.xd fs) := by
  funext b
  by_cases e : b = d
  · rw [e, upd_same, upd_same]
  · rw [upd_ne e, upd_ne e]
    by_cases e2 : b = a
    · rw [e2, del_same, na]
    · rw [del_ne e2]
      unfold mkE
      rw [upd_ne e2, upd_ne e]
end K9
set_option Elab.async false
set_option linter.all false
set_option maxRecDepth 100000
set_option maxHeartbeats 1000000
/-! raise X(v), raise X(v, u): an own error with its fields. -/
namespace K9
open PySem PySem.Spec PyProof.Rows L2 RV EV He EF EI
/-- what X(v) tells to those that catch it -/
def Bad1 (C : Addr) (f : Str) (H : Hp) (E : XK) (v : V) : Prop := ∀ d, H d = none → E (.ref C) (some d) (upd H d (.xd [(f, v)]))
def Bad2 (C : Addr) (f g : Str) (H : Hp) (E : XK) (v u : V) : Prop := ∀ d, H d = none → E (.ref C) (some d) (upd H d (.xd [(g, u), (f, v)]))
theorem mkb1 {H : Hp} {C : Addr} {f : Str} {v : V} {Q : XK} (q : Bad1 C f H Q v) : [v].length ≤ 1000 ∧ ∀ a, H a = none → spE1 C f (.ref a :: ([v] ++ [])) (upd H a (exo a C none))
      (fun z H2 => z = .non ∧ ∃ (d : Addr) (fs : List (Str × V)), H2 a = some (exo a C (some d)) ∧ H2 d = some (exd d fs) ∧ H d = none ∧ Q (.ref C) (some d) (upd (L2.del H2 a) d (.xd fs))) (fun _ _ _ => False) := by
  refine ⟨by show 1 ≤ 1000; decide, fun a na => ⟨a, v, rfl, upd_same, fun d hd ne => ⟨rfl, d, [(f, v)], ?_⟩⟩⟩
  rw [upd_ne ne] at hd
  rw [mk1_eq ne, mk3_eq na ne]
  exact ⟨(mkE_at ne).ob, (mkE_at ne).dc, hd, q d hd⟩
def tRaise1 (C : Addr) (f : Str) (te : TE) (W : WX) : TS := fun _ σ H => tMkO C (spE1 C f) [] (tCons te tNil) σ H fun cls d H' => W cls d σ H'
section
variable {X : Cx} {W : WX} {e e2 : Expr} {te te2 : TE} {p pos pos2 : Pos} {x f g : Str} {bs : List Str}
theorem ps_raise1 (T : Cl1 X.prog X.w X.K X.mg X.base x f bs) (hr : Room 2 X.A) (hc : X.calm = true) (tk : Takes X W) (hg : Gl X x) (he : PE X e te)
    (hs : starEach [e] X.env = (false, eval e X.env) :: starEach [] X.env := by rfl) (hpl : (backTo pos (starEach [] X.env)).any (·.1) = false := by rfl) (hdb : (x == ("__debug__" : Str)) = false := by decide) :
    PS X (.Raise (some (.Call (.Name x p) [e] [] pos)) none pos2) (tRaise1 (ga X.K x) f te W) := by
  obtain ⟨fI, fd, iC, tI, F1, b1, _⟩ := T.mkr
  exact ps_raise hc tk (pmk_oex (dvs := []) T.e.ox iC tI F1 hr b1 .nil (fun _ _ _ _ _ _ _ z => z.elim) hg T.gl (pa_cons he pa_nil (hs := hs)) hdb hs hpl)
end
end K9
set_option Elab.async false
set_option linter.all false
set_option maxRecDepth 100000
set_option maxHeartbeats 1000000
/-! Values of any plain kind; the checks of what a deed names. -/
namespace K9
open PySem PySem.Spec PyProof.Rows L2 RV EV He EF EI LamX
theorem Same.extN {H H' : Hp} (s : Same H H') : ExtN H H' := fun c o e _ => s c o e
def Same2 (H H' : Hp) (p : Addr) : Prop := ∀ c o, c ≠ p → H c = some o → H' c = some o
theorem Same2.trans {H H1 H2 : Hp} {p : Addr} (a : Same2 H H1 p) (b : Same2 H1 H2 p) : Same2 H H2 p := fun c o n e => b c o n (a c o n e)
theorem Same.two {H H' : Hp} (s : Same H H') (p : Addr) : Same2 H H' p := fun c o _ e => s c o e
theorem two_upd {H : Hp} {p : Addr} {o : HO} : Same2 H (upd H p o) p := fun c u n e => by rw [upd_ne n]; exact e
inductive Atoms : List V → List PyData → Prop
  | nil : Atoms [] []
  | int {i : Int} {xs : List V} {ds : List PyData} : Atoms xs ds → Atoms (.int i :: xs) (.int i :: ds)
  | str {x : Str} {xs : List V} {ds : List PyData} : Atoms xs ds → Atoms (.str x :: xs) (.str x :: ds)
/-- a plain value, and the datum that it is -/
inductive Odd (H : Hp) : V → PyData → Prop
  | non : Odd H .non .none
  | bl (b : Bool) : Odd H (.bl b) (.bool b)
  | int (i : Int) : Odd H (.int i) (.int i)
  | str {x : Str} (h : x.length ≤ 1000) : Odd H (.str x) (.str x)
  | tup {a : Addr} {xs : List V} {ds : List PyData} (h : H a = some (.tup xs)) (r : Atoms xs ds) : Odd H (.ref a) (.tuple ds)
  | lst {a : Addr} {xs : List V} {ds : List PyData} (h : H a = some (.lst xs)) (n : a ≠ sysModules) (r : Atoms xs ds) : Odd H (.ref a) (.list ds)
  | dic {a : Addr} (h : H a = some (.dK [])) : Odd H (.ref a) (.dict [])
theorem Atoms.dats {H : Hp} {xs : List V} {ds : List PyData} (r : Atoms xs ds) : Dats H xs ds := by
  induction r with
  | nil => exact .nil
  | int _ ih => exact .cons (.int _) ih
  | str _ ih => exact .cons (.str _) ih
theorem Odd.dat {H : Hp} {v : V} {d : PyData} (o : Odd H v d) : Dat H v d := by
  cases o with
  | non => exact .non
  | bl b => exact .bl b
  | int i => exact .int i
  | str h => exact .str _
  | tup h r => exact .tup h r.dats
  | lst h n r => exact .lst h n r.dats
  | dic h => exact .dic (kvs := []) (kds := []) h rfl .nil
theorem Odd.ext {H H' : Hp} {v : V} {d : PyData} (o : Odd H v d) (s : ExtN H H') : Odd H' v d := by
  cases o with
  | non => exact .non
  | bl b => exact .bl b
  | int i => exact .int i
  | str h => exact .str h
  | tup h r => exact .tup (s _ _ h (fun _ z => nomatch z)) r
  | lst h n r => exact .lst (s _ _ h (fun _ z => nomatch z)) n r
  | dic h => exact .dic (s _ _ h (fun _ z => nomatch z))
theorem Odd.same {H H' : Hp} {v : V} {d : PyData} (o : Odd H v d) (s : Same H H') : Odd H' v d := o.ext (Same.extN s)
/-- what changes at p alone keeps it, where at p stands none of these -/
theorem Odd.two {H H' : Hp} {v : V} {d : PyData} {p : Addr} {u : HO} (o : Odd H v d) (hp : H p = some u) (h1 : ∀ xs, u ≠ .tup xs) (h2 : ∀ xs ds, Atoms xs ds → u ≠ .lst xs) (h3 : ∀ k, u ≠ .dK k) (s : Same2 H H' p) : Odd H' v d := by
  cases o with
  | non => exact .non
  | bl b => exact .bl b
  | int i => exact .int i
  | str h => exact .str h
  | tup h r => exact .tup (s _ _ (fun e => by rw [e, hp] at h; exact h1 _ (Option.some.inj h)) h) r
  | lst h n r => exact .lst (s _ _ (fun e => by rw [e, hp] at h; exact h2 _ _ r (Option.some.inj h)) h) n r
  | dic h => exact .dic (s _ _ (fun e => by rw [e, hp] at h; exact h3 _ (Option.some.inj h)) h)
theorem Odd.ins {H H' : Hp} {v : V} {d : PyData} {p C dx : Addr} {fs : List (Str × V)} (o : Odd H v d) (hp : H p = some (.ins C dx fs)) (s : Same2 H H' p) : Odd H' v d :=
  o.two hp (fun _ z => nomatch z) (fun _ _ _ z => nomatch z) (fun _ z => nomatch z) s
theorem Odd.pen {H H' : Hp} {v : V} {d : PyData} {p a : Addr} {cs : List Int} {b g : Int} (o : Odd H v d) (N : Pen H p a cs b g) (s : Same2 H H' p) : Odd H' v d :=
  o.two N.pn (fun _ z => nomatch z) (fun xs ds r z => by
    have e : [V.ref a, .int b, .int g] = xs := HO.lst.inj z
    subst e
    cases r) (fun _ z => nomatch z) s
def inB (v : V) (lo hi : Int) : Bool := match v with
  | .int i => decide (lo ≤ i) && decide (i ≤ hi)
  | _ => false
def fixB (v : V) : Bool := match v with
  | .str x => isFixB x
  | _ => false
def intV (v : V) : Int := match v with
  | .int i => i
  | _ => 0
section
variable {K : PySem.W.Frag} {H : Hp} {v : V} {d : PyData} {lo hi : Int} {Q : VK} {E : XK}
theorem within_odd (o : Odd H v d) (k : Q (.bl (inB v lo hi)) H) : spWithin K [v, .int lo, .int hi] H Q E := by
  cases o with
  | non => exact ⟨_, "NoneType", false, false, _, _, rfl, .base .non, by decide +kernel, by decide +kernel, .inl ⟨rfl, k⟩⟩
  | bl b => exact ⟨_, "bool", true, true, _, _, rfl, .base (.bl b), by decide +kernel, by decide +kernel, .inl ⟨rfl, k⟩⟩
  | int i => exact ⟨_, "int", true, false, _, _, rfl, .base (.int i), by decide +kernel, by decide +kernel, .inr ⟨rfl, i, rfl, k⟩⟩
  | str h => exact ⟨_, "str", false, false, _, _, rfl, .base (.str _), by decide +kernel, by decide +kernel, .inl ⟨rfl, k⟩⟩
  | tup h r => exact ⟨_, "tuple", false, false, _, _, rfl, .base (.tup h), by decide +kernel, by decide +kernel, .inl ⟨rfl, k⟩⟩
  | lst h n r => exact ⟨_, "list", false, false, _, _, rfl, .base (.lst h), by decide +kernel, by decide +kernel, .inl ⟨rfl, k⟩⟩
  | dic h => exact ⟨_, "dict", false, false, _, _, rfl, .base (.dK h), by decide +kernel, by decide +kernel, .inl ⟨rfl, k⟩⟩
def isI (v : V) : Bool := match v with
  | .int _ => true
  | _ => false
theorem isint_odd (o : Odd H v d) (k : Q (.bl (isI v)) H) : spIsInt K [v] H Q E := by
  cases o with
  | non => exact ⟨_, "NoneType", false, false, rfl, .base .non, by decide +kernel, by decide +kernel, k⟩
  | bl b => exact ⟨_, "bool", true, true, rfl, .base (.bl b), by decide +kernel, by decide +kernel, k⟩
  | int i => exact ⟨_, "int", true, false, rfl, .base (.int i), by decide +kernel, by decide +kernel, k⟩
  | str h => exact ⟨_, "str", false, false, rfl, .base (.str _), by decide +kernel, by decide +kernel, k⟩
  | tup h r => exact ⟨_, "tuple", false, false, rfl, .base (.tup h), by decide +kernel, by decide +kernel, k⟩
  | lst h n r => exact ⟨_, "list", false, false, rfl, .base (.lst h), by decide +kernel, by decide +kernel, k⟩
  | dic h => exact ⟨_, "dict", false, false, rfl, .base (.dK h), by decide +kernel, by decide +kernel, k⟩
theorem fix_odd (o : Odd H v d) (k : ∀ H', Same H H' → Q (.bl (fixB v)) H') : spFix K [v] H Q E := by
  have k0 := k H fun _ _ e => e
  cases o with
  | non => exact ⟨_, rfl, .inr ⟨_, .base .non, kit_ty (by decide +kernel : kitB "NoneType" "str" = some false), k0⟩⟩
  | bl b => exact ⟨_, rfl, .inr ⟨_, .base (.bl b), kit_ty (by decide +kernel : kitB "bool" "str" = some false), k0⟩⟩
  | int i => exact ⟨_, rfl, .inr ⟨_, .base (.int i), kit_ty (by decide +kernel : kitB "int" "str" = some false), k0⟩⟩
  | str h => exact ⟨_, rfl, .inl ⟨_, rfl, by omega, k⟩⟩
  | tup h r => exact ⟨_, rfl, .inr ⟨_, .base (.tup h), kit_ty (by decide +kernel : kitB "tuple" "str" = some false), k0⟩⟩
  | lst h n r => exact ⟨_, rfl, .inr ⟨_, .base (.lst h), kit_ty (by decide +kernel : kitB "list" "str" = some false), k0⟩⟩
  | dic h => exact ⟨_, rfl, .inr ⟨_, .base (.dK h), kit_ty (by decide +kernel : kitB "dict" "str" = some false), k0⟩⟩
end
/-! what comes of a check -/
abbrev Err : Type := Str × Str × V
def Oc (K : PySem.W.Frag) (H : Hp) (o : Option Err) (Q : Hp → Prop) (E : XK) : Prop := match o with
  | none => ∀ H', Same H H' → Q H'
  | some e => ∀ H', Same H H' → Bad1 (ga K e.1) e.2.1 H' E e.2.2
def ckFix (v : V) : Option Err := if fixB v then none else some ("BadFix", "value", v)
def ckLine (lo : Int) (v : V) : Option Err := if inB v lo 6 then none else some ("NoLine", "line", v)
def ckDay (lo : Int) (v : V) : Option Err := if inB v lo 200 then none else some ("NoDay", "day", v)
def ckMate (line : Int) (v : V) : Option Err := if inB v 1 6 then (if intV v = line then some ("NoLine", "line", v) else none) else some ("NoLine", "line", v)
def risen (c f : Str) (hi : Int) : Int → List V → Option Err
  | _, [] => none
  | last, v :: r => if inB v (last + 1) hi then risen c f hi (intV v) r else some (c, f, v)
def ckRise (c f : Str) (hi : Int) (xs : List V) : Option Err := if xs = [] then some ("BadDeed", "at", .non) else risen c f hi 0 xs
def stopB (u : V) (ns : List Int) : Bool := match u with
  | .non => true
  | .int i => decide (i ∈ ns.dropLast)
  | _ => false
def ckStop (c f : Str) (ns : List Int) (u : V) : Option Err := if stopB u ns then none else some (c, f, u)
abbrev Callee (P : Program) (w : World) (K : PySem.W.Frag) (mg : Str → Option Value) (base : Heap) (CX : CXT) (k : Nat) (x : Str) (ps : List Str) (sp : Sp) : Prop :=
  ∃ fd, FnOk P w K mg base CX k (ga K x) fd ps sp ∧ L2.Binds K fd ps [] ∧ PySem.W.keepIn K (.ref (ga K x)) = true ∧ mg x = some (.ref (ga K x))
section
variable {P : Program} {w : World} {K : PySem.W.Frag} {mg : Str → Option Value} {base : Heap}
theorem blt2 (T : KF P w K mg base) : Blt2 mg := ⟨T.fr _ (by decide), T.fr _ (by decide), T.fr _ (by decide), T.fr _ (by decide), T.fr _ (by decide), T.fr _ (by decide)⟩
theorem c_isint (T : KF P w K mg base) : Callee P w K mg base CX0 1 "is_integer" ["value"] (spIsInt K) := by
  obtain ⟨fd, F, g⟩ := T.tops ("is_integer", 4) (by decide)
  exact ⟨fd, ok_isInt F (blt2 T), FunD.bindsN F fun _ _ _ _ _ _ us hl => match us, hl with | [_], _ => rfl, F.kp, g⟩
theorem c_within (T : KF P w K mg base) : Callee P w K mg base CX0 2 "is_within" ["value", "least", "most"] (spWithin K) := by
  obtain ⟨fd, F, g⟩ := T.tops ("is_within", 5) (by decide)
  obtain ⟨fI, FI, gI⟩ := T.tops ("is_integer", 4) (by decide)
  exact ⟨fd, ok_within F (blt2 T) FI gI, FunD.bindsN F fun _ _ _ _ _ _ us hl => match us, hl with | [_, _, _], _ => rfl, F.kp, g⟩
theorem c_fix (T : KF P w K mg base) : Callee P w K mg base CX0 1 "is_fix" ["value"] (spFix K) := by
  obtain ⟨fd, F, g⟩ := T.tops ("is_fix", 6) (by decide)
  exact ⟨fd, ok_fix F (blt2 T), FunD.bindsN F fun _ _ _ _ _ _ us hl => match us, hl with | [_], _ => rfl, F.kp, g⟩
/-! checked_fix -/
def spCk (K : PySem.W.Frag) (ck : V → Option Err) : Sp := fun vs H Q E => ∃ v d, vs = [v] ∧ Odd H v d ∧ Oc K H (ck v) (Q v) E
def spCk2 (K : PySem.W.Frag) (ck : Int → V → Option Err) : Sp := fun vs H Q E => ∃ v d i, vs = [v, .int i] ∧ Odd H v d ∧ Oc K H (ck i v) (Q v) E
theorem scCf : FnScope ["fix"] ["fix"] (defScope (top 16)) := ⟨rfl, rfl, rfl, by decide +kernel, rfl, by decide +kernel, by decide +kernel⟩
theorem c_ckfix (T : KF P w K mg base) : Callee P w K mg base (L2.CX P w) 3 "checked_fix" ["fix"] (spCk K ckFix) := by
  obtain ⟨fd, F, g⟩ := T.tops ("checked_fix", 16) (by decide)
  obtain ⟨fI, GI, bI, kI, gI⟩ := c_fix (w := w) T
  refine ⟨fd, ?_, FunD.bindsN F fun _ _ _ _ _ _ us hl => match us, hl with | [_], _ => rfl, F.kp, g⟩
  refine (F.ok (k := 2) scCf (fun vs H Q E h => ?_) (fun cdv A outer s H vs Q E hr h => ?_))
  · obtain ⟨v, d, rfl, _⟩ := h
    rfl
  · obtain ⟨v, d, rfl, o, c⟩ := h
    refine ⟨_, pss_cons (ps_if (pt_not (pt_val (pe_call (E := E0) GI (hr.mono (by decide)) (by rfl) gI kI bI .nil pass0 (pa_cons (pv 0) pa_nil))))
        (pss_one (ps_raise1 (W := fun cls d x H => E cls d H) T.bf (hr.mono (by decide)) rfl (takes_of rfl rfl rfl rfl) (by rfl) (pv 0))) pss_nil)
      (pss_one (ps_ret (pv 0))), ?_⟩
    refine ⟨_, rfl, ?_⟩
    unfold tNil
    show spFix K [v] H _ _
    refine fix_odd o fun H1 s1 => ⟨_, rfl, ?_⟩
    unfold ckFix at c
    cases e : fixB v with
    | true =>
      rw [e, if_pos rfl] at c
      exact if_negB rfl ⟨_, rfl, c H1 s1⟩
    | false =>
      rw [e, if_neg (by decide)] at c
      exact if_posB rfl ⟨_, rfl, mkb1 (c H1 s1)⟩
/-! checked_line -/
theorem scckl : FnScope ["line", "least"] ["line", "least"] (defScope (top 17)) := ⟨rfl, rfl, rfl, by decide +kernel, rfl, by decide +kernel, by decide +kernel⟩
theorem c_ckl (T : KF P w K mg base) : ∃ fd, FnOk P w K mg base (L2.CX P w) 3 (ga K "checked_line") fd ["line", "least"] (spCk2 K ckLine) ∧ L2.Binds K fd ["line", "least"] [] ∧ (∃ ds, Vals [V.int 1] ds ∧ L2.Binds K fd ["line", "least"] ds) ∧ PySem.W.keepIn K (.ref (ga K "checked_line")) = true ∧ mg "checked_line" = some (.ref (ga K "checked_line")) := by
  obtain ⟨fd, F, g⟩ := T.topd ("checked_line", 17) (by decide)
  obtain ⟨fI, GI, bI, kI, gI⟩ := c_within (w := w) T
  obtain ⟨tL, iL⟩ := T.iL
  refine ⟨fd, ?_, ?_, ?_, F.kp, g⟩
  · refine (F.ok (k := 2) scckl (fun vs H Q E h => ?_) (fun cdv A outer s H vs Q E hr h => ?_))
    · obtain ⟨v, d, i, rfl, _⟩ := h
      rfl
    · obtain ⟨v, d, i, rfl, o, c⟩ := h
      refine ⟨_, pss_cons (ps_if (pt_not (pt_val (pe_call (E := E0) GI (hr.mono (by decide)) (by rfl) gI kI bI .nil pass0 (pa_cons (pv 0) (pa_cons (pv 1) (pa_cons (pe_glob (v := .int 6) (by rfl) iL ⟨_, rfl⟩) pa_nil))))))
          (pss_one (ps_raise1 (W := fun cls d x H => E cls d H) T.nl (hr.mono (by decide)) rfl (takes_of rfl rfl rfl rfl) (by rfl) (pv 0))) pss_nil)
        (pss_one (ps_ret (pv 0))), ?_⟩
      refine ⟨_, rfl, _, rfl, ?_⟩
      unfold tCons tC tNil
      show spWithin K [v, .int i, .int 6] H _ _
      refine within_odd o ⟨_, rfl, ?_⟩
      unfold ckLine at c
      cases e : inB v i 6 with
      | true =>
        rw [e, if_pos rfl] at c
        exact if_negB rfl ⟨_, rfl, c H fun _ _ e => e⟩
      | false =>
        rw [e, if_neg (by decide)] at c
        exact if_posB rfl ⟨_, rfl, mkb1 (c H fun _ _ e => e)⟩
  · obtain ⟨ds, r, b⟩ := FunD.binds1 F (ps := ["line", "least"]) 2 1 (fun z => nomatch z) rfl fun T kV doc pm an cdv ct us its h1 h2 => match us, its, h1, h2 with
      | [_, _], [_], _, _ => ⟨_, rfl, rfl⟩
    cases r
    exact b
  · obtain ⟨ds, r, b⟩ := FunD.binds1 F (ps := ["line", "least"]) 1 0 (fun z => nomatch z) rfl fun T kV doc pm an cdv ct us its h1 h2 => match us, its, h1, h2 with
      | [_], [_], _, _ => ⟨_, rfl, rfl⟩
    exact ⟨ds, r, b⟩
/-! checked_day -/
theorem scckd : FnScope ["day", "least"] ["day", "least"] (defScope (top 19)) := ⟨rfl, rfl, rfl, by decide +kernel, rfl, by decide +kernel, by decide +kernel⟩
theorem c_ckd (T : KF P w K mg base) : ∃ fd, FnOk P w K mg base (L2.CX P w) 3 (ga K "checked_day") fd ["day", "least"] (spCk2 K ckDay) ∧ L2.Binds K fd ["day", "least"] [] ∧ (∃ ds, Vals [V.int 1] ds ∧ L2.Binds K fd ["day", "least"] ds) ∧ PySem.W.keepIn K (.ref (ga K "checked_day")) = true ∧ mg "checked_day" = some (.ref (ga K "checked_day")) := by
  obtain ⟨fd, F, g⟩ := T.topd ("checked_day", 19) (by decide)
  obtain ⟨fI, GI, bI, kI, gI⟩ := c_within (w := w) T
  obtain ⟨tL, iL⟩ := T.iD
  refine ⟨fd, ?_, ?_, ?_, F.kp, g⟩
  · refine (F.ok (k := 2) scckd (fun vs H Q E h => ?_) (fun cdv A outer s H vs Q E hr h => ?_))
    · obtain ⟨v, d, i, rfl, _⟩ := h
      rfl
    · obtain ⟨v, d, i, rfl, o, c⟩ := h
      refine ⟨_, pss_cons (ps_if (pt_not (pt_val (pe_call (E := E0) GI (hr.mono (by decide)) (by rfl) gI kI bI .nil pass0 (pa_cons (pv 0) (pa_cons (pv 1) (pa_cons (pe_glob (v := .int 200) (by rfl) iL ⟨_, rfl⟩) pa_nil))))))
          (pss_one (ps_raise1 (W := fun cls d x H => E cls d H) T.nd (hr.mono (by decide)) rfl (takes_of rfl rfl rfl rfl) (by rfl) (pv 0))) pss_nil)
        (pss_one (ps_ret (pv 0))), ?_⟩
      refine ⟨_, rfl, _, rfl, ?_⟩
      unfold tCons tC tNil
      show spWithin K [v, .int i, .int 200] H _ _
      refine within_odd o ⟨_, rfl, ?_⟩
      unfold ckDay at c
      cases e : inB v i 200 with
      | true =>
        rw [e, if_pos rfl] at c
        exact if_negB rfl ⟨_, rfl, c H fun _ _ e => e⟩
      | false =>
        rw [e, if_neg (by decide)] at c
        exact if_posB rfl ⟨_, rfl, mkb1 (c H fun _ _ e => e)⟩
  · obtain ⟨ds, r, b⟩ := FunD.binds1 F (ps := ["day", "least"]) 2 1 (fun z => nomatch z) rfl fun T kV doc pm an cdv ct us its h1 h2 => match us, its, h1, h2 with
      | [_, _], [_], _, _ => ⟨_, rfl, rfl⟩
    cases r
    exact b
  · obtain ⟨ds, r, b⟩ := FunD.binds1 F (ps := ["day", "least"]) 1 0 (fun z => nomatch z) rfl fun T kV doc pm an cdv ct us its h1 h2 => match us, its, h1, h2 with
      | [_], [_], _, _ => ⟨_, rfl, rfl⟩
    exact ⟨ds, r, b⟩
/-! checked_mate -/
def spMate (K : PySem.W.Frag) : Sp := fun vs H Q E => ∃ v d i, vs = [v, .int i] ∧ Odd H v d ∧ Oc K H (ckMate i v) (Q v) E
theorem scMa : FnScope ["mate", "line"] ["mate", "line"] (defScope (top 18)) := ⟨rfl, rfl, rfl, by decide +kernel, rfl, by decide +kernel, by decide +kernel⟩
theorem in_int {v : V} {lo hi : Int} (h : inB v lo hi = true) : v = .int (intV v) := by
  cases v <;> first | rfl | cases h
theorem c_mate (T : KF P w K mg base) : Callee P w K mg base (L2.CX P w) 4 "checked_mate" ["mate", "line"] (spMate K) := by
  obtain ⟨fd, F, g⟩ := T.tops ("checked_mate", 18) (by decide)
  obtain ⟨fI, GI, _, ⟨ds, rds, bI⟩, kI, gI⟩ := c_ckl (w := w) T
  refine ⟨fd, ?_, FunD.bindsN F fun _ _ _ _ _ _ us hl => match us, hl with | [_, _], _ => rfl, F.kp, g⟩
  refine (F.ok (k := 3) scMa (fun vs H Q E h => ?_) (fun cdv A outer s H vs Q E hr h => ?_))
  · obtain ⟨v, d, i, rfl, _⟩ := h
    rfl
  · obtain ⟨v, d, i, rfl, o, c⟩ := h
    refine ⟨_, pss_cons (ps_if (pt_cmpR op_eq (pe_call (E := E) GI (hr.mono (by decide)) (by rfl) gI kI bI rds (passes_call (takes_of rfl rfl rfl rfl) fun _ _ _ _ h => h) (pa_cons (pv 0) pa_nil)) (pv 1) (nomark _))
        (pss_one (ps_raise1 (W := fun cls d x H => E cls d H) T.nl (hr.mono (by decide)) rfl (takes_of rfl rfl rfl rfl) (by rfl) (pv 0))) pss_nil)
      (pss_one (ps_ret (pv 0))), ?_⟩
    refine ⟨_, rfl, v, d, 1, rfl, o, ?_⟩
    unfold ckMate at c
    unfold ckLine
    cases e : inB v 1 6 with
    | false =>
      rw [e, if_neg (by decide)] at c
      rw [if_neg (by decide)]
      exact c
    | true =>
      rw [e, if_pos rfl] at c
      rw [if_pos rfl]
      intro H1 s1
      have ev := in_int e
      refine ⟨_, rfl, by rw [ev]; rfl, _, rfl, ?_⟩
      have e2 : decide (v = V.int i) = decide (intV v = i) := decide_eq_decide.mpr ⟨fun h => by rw [h]; rfl, fun h => by rw [ev, h]⟩
      rw [e2]
      by_cases h : intV v = i
      · rw [if_pos h] at c
        exact if_posB (decide_eq_true h) ⟨_, rfl, mkb1 (c H1 s1)⟩
      · rw [if_neg h] at c
        exact if_negB (decide_eq_false h) ⟨_, rfl, c H1 s1⟩
end
end K9
set_option Elab.async false
set_option linter.all false
set_option maxRecDepth 100000
set_option maxHeartbeats 1000000
/-! The checks of rows of numbers, and of stops. -/
namespace K9
open PySem PySem.Spec PyProof.Rows L2 RV EV He EF EI LamX
theorem Same.refl' (H : Hp) : Same H H := fun _ _ e => e
def AllOdd (H : Hp) (xs : List V) : Prop := ∀ v ∈ xs, ∃ d, Odd H v d
theorem AllOdd.ext {H H' : Hp} {xs : List V} (a : AllOdd H xs) (s : ExtN H H') : AllOdd H' xs := fun v hv => let ⟨d, o⟩ := a v hv; ⟨d, o.ext s⟩
theorem AllOdd.ins {H H' : Hp} {xs : List V} {p C dx : Addr} {fs : List (Str × V)} (a : AllOdd H xs) (hp : H p = some (.ins C dx fs)) (s : Same2 H H' p) : AllOdd H' xs := fun v hv => let ⟨d, o⟩ := a v hv; ⟨d, o.ins hp s⟩
theorem Oc.two {K : PySem.W.Frag} {H H' : Hp} {o : Option Err} {Q : Hp → Prop} {E : XK} (c : Oc K H o Q E) (s : Same H H') : Oc K H' o Q E := by
  cases o with
  | none => exact fun H2 s2 => c H2 (s.trans s2)
  | some e => exact fun H2 s2 => c H2 (s.trans s2)
theorem risen_ints {c f : Str} {hi : Int} : ∀ {xs : List V} {last : Int}, risen c f hi last xs = none → ∃ ns : List Int, xs = ns.map V.int
  | [], _, _ => ⟨[], rfl⟩
  | v :: r, last, h => by
    unfold risen at h
    cases e : inB v (last + 1) hi with
    | false => rw [e] at h; cases h
    | true =>
      rw [e, if_pos rfl] at h
      obtain ⟨ns, rfl⟩ := risen_ints h
      exact ⟨intV v :: ns, by rw [List.map_cons, ← in_int e]⟩
theorem rise_ints {c f : Str} {hi : Int} {xs : List V} (h : ckRise c f hi xs = none) : ∃ ns : List Int, xs = ns.map V.int ∧ ns ≠ [] := by
  unfold ckRise at h
  by_cases e : xs = []
  · rw [if_pos e] at h; cases h
  · rw [if_neg e] at h
    obtain ⟨ns, rfl⟩ := risen_ints h
    exact ⟨ns, rfl, fun z => e (by rw [z]; rfl)⟩
theorem risen_cons {c f : Str} {hi last : Int} {v : V} {r : List V} : risen c f hi last (v :: r) = if inB v (last + 1) hi then risen c f hi (intV v) r else some (c, f, v) := rfl
theorem risen_nil {c f : Str} {hi last : Int} : risen c f hi last [] = none := rfl
def spRise (K : PySem.W.Frag) (c f : Str) (hi : Int) : Sp := fun vs H Q E => ∃ a xs, vs = [.ref a] ∧ H a = some (.tup xs) ∧ AllOdd H xs ∧ Oc K H (ckRise c f hi xs) (Q (.ref a)) E
section
variable {P : Program} {w : World} {K : PySem.W.Frag} {mg : Str → Option Value} {base : Heap}
theorem sclines : FnScope ["lines", "last", "line"] ["lines"] (defScope (top 20)) := ⟨rfl, rfl, rfl, by decide +kernel, rfl, by decide +kernel, by decide +kernel⟩
theorem c_lines (T : KF P w K mg base) : Callee P w K mg base (L2.CX P w) 4 "checked_lines" ["lines"] (spRise K "NoLine" "line" 6) := by
  obtain ⟨fd, F, g⟩ := T.tops ("checked_lines", 20) (by decide)
  obtain ⟨fI, GI, bI, _, kI, gI⟩ := c_ckl (w := w) T
  refine ⟨fd, ?_, FunD.bindsN F fun _ _ _ _ _ _ us hl => match us, hl with | [_], _ => rfl, F.kp, g⟩
  refine (F.ok (k := 3) sclines (fun vs H Q E h => ?_) (fun cdv A outer s H vs Q E hr h => ?_))
  · obtain ⟨a, xs, rfl, _⟩ := h
    rfl
  · obtain ⟨a, xs, rfl, ha, ho, c⟩ := h
    refine ⟨_, pss_cons (ps_if (pt_not (pt_truth (pv 0) (fun _ => rfl)))
          (pss_one (ps_raise1 (W := fun cls d x H => E cls d H) T.bd (hr.mono (by decide)) rfl (takes_of rfl rfl rfl rfl) (by rfl) pe_non)) pss_nil)
      (pss_cons (ps_set (i := 1) sclines.nd rfl (.inl rfl) pe_int)
      (pss_cons (ps_for (passes_of rfl) rfl (pi_tup (pv 0)) (pg_name (i := 2) sclines.nd rfl (.inl rfl))
        (pss_one (ps_set (i := 1) sclines.nd rfl (.inl rfl) (pe_call (E := E) GI (hr.mono (by decide)) (by rfl) gI kI bI .nil (passes_call (takes_of rfl rfl rfl rfl) fun _ _ _ _ h => h) (pa_cons (pv 2) (pa_cons (pe_op op_add (pv 1) pe_int) pa_nil))))))
      (pss_one (ps_ret (pv 0))))), ?_⟩
    refine ⟨_, rfl, !xs.isEmpty, .inr (.inl ⟨_, SqT.of ha, rfl⟩), ?_⟩
    unfold ckRise at c
    by_cases e : xs = []
    · rw [if_pos e] at c
      rw [e]
      exact if_posB rfl (mkb1 (c H fun _ _ e => e))
    rw [if_neg e] at c
    refine if_negB (by cases xs with | nil => exact absurd rfl e | cons x r => rfl) ?_
    refine ⟨_, rfl, a, rfl, ⟨_, SqT.of ha⟩, for_it (walk_tup (xs := xs)) (fun i σ' H' => ∃ (last : Int) (o : Option V), σ' = [some (.ref a), some (.int last), o] ∧ Same H H' ∧ risen "NoLine" "line" 6 last (xs.drop i) = risen "NoLine" "line" 6 0 xs)
      ⟨0, none, rfl, fun _ _ e => e, rfl⟩ (fun i σ' H' _ ⟨_, _, _, s, _⟩ => SqT.of (s _ _ ha)) ?_ ?_⟩
    · rintro i x σ' H1 H2 hi ⟨last, o, rfl, s1, er⟩ ⟨rfl, hx⟩
      have ed : xs.drop i = x :: xs.drop (i + 1) := by
        obtain ⟨hl, hv⟩ := List.getElem?_eq_some_iff.mp hx
        rw [← hv]
        exact List.drop_eq_getElem_cons hl
      rw [ed, risen_cons] at er
      obtain ⟨d, od⟩ := ho x (List.mem_of_getElem? hx)
      refine ⟨_, rfl, _, rfl, last, 1, rfl, rfl, ?_⟩
      unfold tNil
      show spCk2 K ckLine [x, .int (last + 1)] _ _ _
      refine ⟨x, d, last + 1, rfl, od.same s1, ?_⟩
      unfold ckLine
      cases e2 : inB x (last + 1) 6 with
      | true =>
        rw [e2, if_pos rfl] at er
        rw [if_pos rfl]
        intro H3 s3
        refine ⟨intV x, some x, ?_, s1.trans s3, er⟩
        rw [← in_int e2]
        rfl
      | false =>
        rw [e2, if_neg (by decide)] at er
        rw [if_neg (by decide)]
        intro H3 s3
        rw [← er] at c
        exact c H3 (s1.trans s3)
    · rintro σ' H1 ⟨last, o, rfl, s1, er⟩
      rw [List.drop_of_length_le (Nat.le_refl _), risen_nil] at er
      rw [← er] at c
      exact ⟨_, rfl, c H1 s1⟩
theorem scdays : FnScope ["days", "last", "day"] ["days"] (defScope (top 21)) := ⟨rfl, rfl, rfl, by decide +kernel, rfl, by decide +kernel, by decide +kernel⟩
theorem c_days (T : KF P w K mg base) : Callee P w K mg base (L2.CX P w) 4 "checked_days" ["days"] (spRise K "NoDay" "day" 200) := by
  obtain ⟨fd, F, g⟩ := T.tops ("checked_days", 21) (by decide)
  obtain ⟨fI, GI, bI, _, kI, gI⟩ := c_ckd (w := w) T
  refine ⟨fd, ?_, FunD.bindsN F fun _ _ _ _ _ _ us hl => match us, hl with | [_], _ => rfl, F.kp, g⟩
  refine (F.ok (k := 3) scdays (fun vs H Q E h => ?_) (fun cdv A outer s H vs Q E hr h => ?_))
  · obtain ⟨a, xs, rfl, _⟩ := h
    rfl
  · obtain ⟨a, xs, rfl, ha, ho, c⟩ := h
    refine ⟨_, pss_cons (ps_if (pt_not (pt_truth (pv 0) (fun _ => rfl)))
          (pss_one (ps_raise1 (W := fun cls d x H => E cls d H) T.bd (hr.mono (by decide)) rfl (takes_of rfl rfl rfl rfl) (by rfl) pe_non)) pss_nil)
      (pss_cons (ps_set (i := 1) scdays.nd rfl (.inl rfl) pe_int)
      (pss_cons (ps_for (passes_of rfl) rfl (pi_tup (pv 0)) (pg_name (i := 2) scdays.nd rfl (.inl rfl))
        (pss_one (ps_set (i := 1) scdays.nd rfl (.inl rfl) (pe_call (E := E) GI (hr.mono (by decide)) (by rfl) gI kI bI .nil (passes_call (takes_of rfl rfl rfl rfl) fun _ _ _ _ h => h) (pa_cons (pv 2) (pa_cons (pe_op op_add (pv 1) pe_int) pa_nil))))))
      (pss_one (ps_ret (pv 0))))), ?_⟩
    refine ⟨_, rfl, !xs.isEmpty, .inr (.inl ⟨_, SqT.of ha, rfl⟩), ?_⟩
    unfold ckRise at c
    by_cases e : xs = []
    · rw [if_pos e] at c
      rw [e]
      exact if_posB rfl (mkb1 (c H fun _ _ e => e))
    rw [if_neg e] at c
    refine if_negB (by cases xs with | nil => exact absurd rfl e | cons x r => rfl) ?_
    refine ⟨_, rfl, a, rfl, ⟨_, SqT.of ha⟩, for_it (walk_tup (xs := xs)) (fun i σ' H' => ∃ (last : Int) (o : Option V), σ' = [some (.ref a), some (.int last), o] ∧ Same H H' ∧ risen "NoDay" "day" 200 last (xs.drop i) = risen "NoDay" "day" 200 0 xs)
      ⟨0, none, rfl, fun _ _ e => e, rfl⟩ (fun i σ' H' _ ⟨_, _, _, s, _⟩ => SqT.of (s _ _ ha)) ?_ ?_⟩
    · rintro i x σ' H1 H2 hi ⟨last, o, rfl, s1, er⟩ ⟨rfl, hx⟩
      have ed : xs.drop i = x :: xs.drop (i + 1) := by
        obtain ⟨hl, hv⟩ := List.getElem?_eq_some_iff.mp hx
        rw [← hv]
        exact List.drop_eq_getElem_cons hl
      rw [ed, risen_cons] at er
      obtain ⟨d, od⟩ := ho x (List.mem_of_getElem? hx)
      refine ⟨_, rfl, _, rfl, last, 1, rfl, rfl, ?_⟩
      unfold tNil
      show spCk2 K ckDay [x, .int (last + 1)] _ _ _
      refine ⟨x, d, last + 1, rfl, od.same s1, ?_⟩
      unfold ckDay
      cases e2 : inB x (last + 1) 200 with
      | true =>
        rw [e2, if_pos rfl] at er
        rw [if_pos rfl]
        intro H3 s3
        refine ⟨intV x, some x, ?_, s1.trans s3, er⟩
        rw [← in_int e2]
        rfl
      | false =>
        rw [e2, if_neg (by decide)] at er
        rw [if_neg (by decide)]
        intro H3 s3
        rw [← er] at c
        exact c H3 (s1.trans s3)
    · rintro σ' H1 ⟨last, o, rfl, s1, er⟩
      rw [List.drop_of_length_le (Nat.le_refl _), risen_nil] at er
      rw [← er] at c
      exact ⟨_, rfl, c H1 s1⟩
/-! stops -/
theorem inV_int (i : Int) (ns : List Int) : inV (.int i) (ns.map V.int) = decide (i ∈ ns) := by
  unfold inV
  rw [List.any_map]
  rw [Bool.eq_iff_iff, List.any_eq_true, decide_eq_true_iff]
  constructor
  · rintro ⟨x, hx, h⟩
    have h : decide ((x : Int) = i) = true := h
    rw [← of_decide_eq_true h]
    exact hx
  · intro h
    exact ⟨i, h, decide_eq_true (p := (i : Int) = i) rfl⟩
def spIsStop (K : PySem.W.Frag) : Sp := fun vs H Q _ => ∃ u d a ns, vs = [u, .ref a] ∧ Odd H u d ∧ H a = some (.tup (ns.map V.int)) ∧ ns ≠ [] ∧ ∀ H', Same H H' → Q (.bl (stopB u ns)) H'
theorem scIs : FnScope ["upto", "named"] ["upto", "named"] (defScope (top 22)) := ⟨rfl, rfl, rfl, by decide +kernel, rfl, by decide +kernel, by decide +kernel⟩
theorem cut_last {ns : List Int} (h : ns ≠ []) : cutV (ns.map V.int) none (some (-1)) = ns.dropLast.map V.int ∧ ¬ (HT.sIx (ns.map V.int).length 0 none = 0 ∧ HT.sIx (ns.map V.int).length (ns.map V.int).length (some (-1)) = (ns.map V.int).length) := by
  have hl : 0 < ns.length := List.length_pos_iff.mpr h
  have e : HT.sIx (ns.map V.int).length (ns.map V.int).length (some (-1)) = ns.length - 1 := by
    rw [List.length_map]
    unfold HT.sIx
    simp
    omega
  have e0 : HT.sIx (ns.map V.int).length 0 none = 0 := HT.sIx_none ..
  refine ⟨?_, fun z => ?_⟩
  · unfold cutV
    rw [e, e0, List.drop_zero, Nat.sub_zero, List.dropLast_eq_take, List.map_take]
  · rw [e, List.length_map] at z
    omega
theorem c_isstop (T : KF P w K mg base) : Callee P w K mg base CX0 2 "is_stop" ["upto", "named"] (spIsStop K) := by
  obtain ⟨fd, F, g⟩ := T.tops ("is_stop", 22) (by decide)
  obtain ⟨fI, GI, bI, kI, gI⟩ := c_isint (w := w) T
  refine ⟨fd, ?_, FunD.bindsN F fun _ _ _ _ _ _ us hl => match us, hl with | [_, _], _ => rfl, F.kp, g⟩
  refine (F.ok (k := 1) scIs (fun vs H Q E h => ?_) (fun cdv A outer s H vs Q E hr h => ?_))
  · obtain ⟨u, d, a, ns, rfl, _⟩ := h
    rfl
  · obtain ⟨u, d, a, ns, rfl, o, ha, hne, k⟩ := h
    refine ⟨_, PSs.nox (pss_one (ps_ret (pe_or (pe_cmp (pc_isN (pv 0)) rfl) (pe_one (pe_and (pe_call (E := E0) GI (hr.mono (by decide)) (by rfl) gI kI bI .nil pass0 (pa_cons (pv 0) pa_nil))
      (pe_one (pe_cmpR op_in_seq (pv 0) (pe_slice sl_tup (pv 1) po_none (po_some (pe_un un_neg pe_int))) rfl))))))), ?_⟩
    have t0 := Same.refl' H
    refine ⟨u, rfl, _, rfl, ?_⟩
    cases e : decide (u = V.non) with
    | true =>
      have e := of_decide_eq_true e
      subst e
      exact if_posB rfl (k H t0)
    | false =>
      refine if_negB rfl ⟨u, rfl, ?_⟩
      unfold tNil
      show spIsInt K [u] H _ _
      refine isint_odd o ⟨_, rfl, ?_⟩
      cases e2 : isI u with
      | false =>
        refine if_negB rfl ?_
        have es : stopB u ns = false := by
          cases u <;> first | rfl | exact absurd rfl (of_decide_eq_false e) | cases e2
        rw [es] at k
        exact k H t0
      | true =>
        refine if_posB rfl ?_
        obtain ⟨i, rfl⟩ : ∃ i, u = .int i := by
          cases u <;> first | exact ⟨_, rfl⟩ | cases e2
        obtain ⟨c1, c2⟩ := cut_last hne
        refine ⟨.int i, rfl, .ref a, rfl, 1, rfl, -1, rfl, a, _, rfl, SqT.of ha, c2, fun p np => ⟨p, _, rfl, .inr (SqT.of upd_same), rfl, ?_, ?_⟩⟩
        · show (cutV (ns.map V.int) none (some (-1))).all flatV = true
          rw [c1, List.all_map]
          exact List.all_eq_true.mpr fun _ _ => rfl
        · show Q (.bl (inV (.int i) (cutV (ns.map V.int) none (some (-1))))) _
          rw [c1, inV_int]
          exact k _ (same_new np)
def spStop (K : PySem.W.Frag) (c f : Str) : Sp := fun vs H Q E => ∃ u d a ns, vs = [u, .ref a] ∧ Odd H u d ∧ H a = some (.tup (ns.map V.int)) ∧ ns ≠ [] ∧ Oc K H (ckStop c f ns u) (Q u) E
theorem sclstop : FnScope ["upto", "lines"] ["upto", "lines"] (defScope (top 23)) := ⟨rfl, rfl, rfl, by decide +kernel, rfl, by decide +kernel, by decide +kernel⟩
theorem c_lstop (T : KF P w K mg base) : Callee P w K mg base (L2.CX P w) 3 "line_stop" ["upto", "lines"] (spStop K "NoLine" "line") := by
  obtain ⟨fd, F, g⟩ := T.tops ("line_stop", 23) (by decide)
  obtain ⟨fI, GI, bI, kI, gI⟩ := c_isstop (w := w) T
  refine ⟨fd, ?_, FunD.bindsN F fun _ _ _ _ _ _ us hl => match us, hl with | [_, _], _ => rfl, F.kp, g⟩
  refine (F.ok (k := 2) sclstop (fun vs H Q E h => ?_) (fun cdv A outer s H vs Q E hr h => ?_))
  · obtain ⟨u, d, a, ns, rfl, _⟩ := h
    rfl
  · obtain ⟨u, d, a, ns, rfl, o, ha, hne, c⟩ := h
    refine ⟨_, pss_cons (ps_if (pt_not (pt_val (pe_call (E := E0) GI (hr.mono (by decide)) (by rfl) gI kI bI .nil pass0 (pa_cons (pv 0) (pa_cons (pv 1) pa_nil)))))
        (pss_one (ps_raise1 (W := fun cls d x H => E cls d H) T.nl (hr.mono (by decide)) rfl (takes_of rfl rfl rfl rfl) (by rfl) (pv 0))) pss_nil)
      (pss_one (ps_ret (pv 0))), ?_⟩
    refine ⟨_, rfl, _, rfl, ?_⟩
    unfold tNil
    show spIsStop K [u, .ref a] H _ _
    refine ⟨u, d, a, ns, rfl, o, ha, hne, fun H1 s1 => ⟨_, rfl, ?_⟩⟩
    unfold ckStop at c
    cases e : stopB u ns with
    | true =>
      rw [e, if_pos rfl] at c
      exact if_negB rfl ⟨_, rfl, c H1 s1⟩
    | false =>
      rw [e, if_neg (by decide)] at c
      exact if_posB rfl ⟨_, rfl, mkb1 (c H1 s1)⟩
theorem scdstop : FnScope ["upto", "days"] ["upto", "days"] (defScope (top 24)) := ⟨rfl, rfl, rfl, by decide +kernel, rfl, by decide +kernel, by decide +kernel⟩
theorem c_dstop (T : KF P w K mg base) : Callee P w K mg base (L2.CX P w) 3 "day_stop" ["upto", "days"] (spStop K "NoDay" "day") := by
  obtain ⟨fd, F, g⟩ := T.tops ("day_stop", 24) (by decide)
  obtain ⟨fI, GI, bI, kI, gI⟩ := c_isstop (w := w) T
  refine ⟨fd, ?_, FunD.bindsN F fun _ _ _ _ _ _ us hl => match us, hl with | [_, _], _ => rfl, F.kp, g⟩
  refine (F.ok (k := 2) scdstop (fun vs H Q E h => ?_) (fun cdv A outer s H vs Q E hr h => ?_))
  · obtain ⟨u, d, a, ns, rfl, _⟩ := h
    rfl
  · obtain ⟨u, d, a, ns, rfl, o, ha, hne, c⟩ := h
    refine ⟨_, pss_cons (ps_if (pt_not (pt_val (pe_call (E := E0) GI (hr.mono (by decide)) (by rfl) gI kI bI .nil pass0 (pa_cons (pv 0) (pa_cons (pv 1) pa_nil)))))
        (pss_one (ps_raise1 (W := fun cls d x H => E cls d H) T.nd (hr.mono (by decide)) rfl (takes_of rfl rfl rfl rfl) (by rfl) (pv 0))) pss_nil)
      (pss_one (ps_ret (pv 0))), ?_⟩
    refine ⟨_, rfl, _, rfl, ?_⟩
    unfold tNil
    show spIsStop K [u, .ref a] H _ _
    refine ⟨u, d, a, ns, rfl, o, ha, hne, fun H1 s1 => ⟨_, rfl, ?_⟩⟩
    unfold ckStop at c
    cases e : stopB u ns with
    | true =>
      rw [e, if_pos rfl] at c
      exact if_negB rfl ⟨_, rfl, c H1 s1⟩
    | false =>
      rw [e, if_neg (by decide)] at c
      exact if_posB rfl ⟨_, rfl, mkb1 (c H1 s1)⟩
end
end K9
set_option Elab.async false
set_option linter.all false
set_option maxRecDepth 100000
set_option maxHeartbeats 1000000
/-! Operators of an own class: x < y, x != y, x | y, y in x, x[i], str(x). -/
namespace Oo
open PySem PySem.Spec PyProof.Rows L2
section
variable {X : Cx} {CX : CXT} {k : Nat} {C f : Addr} {sp : Sp} {E : XK} {pins : List (Addr × Obj)} {σ : L2.St} {H : Hp} {s : Shared}
theorem looks_ty {x : V} {u t : Value} (I : Inv X pins σ H s) (rx : RelV x u) (ty : TyX X.K H x t) : PySem.W.Looks (model X.prog X.w) s.heap (typeOf u) t := by
  obtain ⟨P, Z, p, _⟩ := kit_of I rx ty
  exact Z.ty _ _ I.kIn p
/-- no value of ours is NotImplemented -/
theorem back_of {v : V} {u : Value} {s' : Shared} {Q : Value → Shared → Prop} (r : RelV v u) (h : Q u s') : PySem.W.CmpBack Q u s' := by
  cases v with
  | non => obtain rfl : u = .none := r; exact h
  | bl b => obtain rfl : u = .bool b := r; exact h
  | int i => obtain ⟨t, rfl⟩ := r; exact h
  | str x => obtain ⟨t, rfl⟩ := r; exact h
  | byt x => obtain ⟨t, rfl⟩ := r; exact h
  | flt x => obtain ⟨t, rfl⟩ := r; exact h
  | ref a => obtain rfl : u = .ref a := r; exact h
  | ty n => obtain rfl : u = .type n := r; exact h
/-- an own method of two places: x of the class at C, y of a kind that ok lets -/
def rOwn2 (K : PySem.W.Frag) (C : Addr) (ok : Value → Prop) (sp : Sp) (E : XK) : R2 := fun x y H Q => ∃ a dx fs t, x = .ref a ∧ H a = some (.ins C dx fs) ∧ TyX K H y t ∧ ok t ∧ sp [.ref a, y] H Q E
/-- x < y and the like -/
theorem op_cmpO {op : CmpOp} (hop : ∀ a b, compareOp op a b = richCompare op a b) (hm : Meth X.K C (cmpInfo op).2.1 f) (F : FnR X.prog X.w X.K X.mg X.base CX k f sp) (hr : Room k X.A) (hx : Passes CX X E) :
    OpR X (compareOp op) (rOwn2 X.K C (fun t => PySem.W.notFirst X.K C t = true) sp E) := by
  intro pins s σ H x y v u Q I rx ry h
  obtain ⟨a, dx, fs, t, rfl, ea, ty, hn, q⟩ := h
  obtain rfl : v = Value.ref a := rx
  rw [hop]
  obtain ⟨mA, O, _⟩ := ins_get I.hok ea
  obtain ⟨od, J, _⟩ := O.look
  obtain ⟨m, hF⟩ := I.fr
  refine PySem.W.cmp_K hr.units0 hF I.ok.mod.kin J (looks_ty I ry ty) hn hm.at_ hm.fn (thn (wpAny_call (run_fnR (us := [.ref a, u]) (vs := [.ref a, y]) F hr hx I (.cons rfl (.cons ry .nil)) q)) fun z s' hz => ?_)
  obtain ⟨w, H', I', rw', q'⟩ := hz
  exact back_of rw' ⟨w, H', I', rw', q'⟩
/-- x | y and the like, y of the same class -/
theorem op_binO {op : Operator} (hm : Meth X.K C (PySem.dunder op.info.2) f) (hs : PySem.W.selfFirst X.K C = true) (F : FnR X.prog X.w X.K X.mg X.base CX k f sp) (hr : Room k X.A) (hx : Passes CX X E) :
    OpR X (binaryOp op) (rOwn2 X.K C (fun t => t = .ref C) sp E) := by
  intro pins s σ H x y v u Q I rx ry h
  obtain ⟨a, dx, fs, t, rfl, ea, ty, rfl, q⟩ := h
  obtain rfl : v = Value.ref a := rx
  obtain ⟨mA, O, _⟩ := ins_get I.hok ea
  obtain ⟨od, J, _⟩ := O.look
  obtain ⟨m, hF⟩ := I.fr
  refine PySem.W.binop_K hF I.ok.mod.kin J (looks_ty I ry ty) hs hm.at_ hm.fn (thn (wpAny_call (run_fnR (us := [.ref a, u]) (vs := [.ref a, y]) F hr hx I (.cons rfl (.cons ry .nil)) q)) fun z s' hz => ?_)
  obtain ⟨w, H', I', rw', q'⟩ := hz
  exact back_of rw' ⟨w, H', I', rw', q'⟩
/-- y in x, by __contains__ that gives a Bool -/
def rInO (C : Addr) (g : Bool → Bool) (sp : Sp) (E : XK) : R2 := fun y x H Q => ∃ a dx fs, x = .ref a ∧ H a = some (.ins C dx fs) ∧ sp [.ref a, y] H (fun v H' => ∃ b, v = .bl b ∧ Q (.bl (g b)) H') E
theorem contO (hm : Meth X.K C "__contains__" f) (F : FnR X.prog X.w X.K X.mg X.base CX k f sp) (hr : Room k X.A) (hx : Passes CX X E) {a dx : Addr} {fs : List (Str × V)} {y : V} {u : Value} {g : Bool → Bool} {Q : VK} (I : Inv X pins σ H s) (ry : RelV y u) (ea : H a = some (.ins C dx fs))
    (q : sp [.ref a, y] H (fun v H' => ∃ b, v = .bl b ∧ Q (.bl (g b)) H') E) : wpAny (model X.prog X.w) X.A (call (.ref f) [.ref a, u]) (fun r s' => wpAny (model X.prog X.w) X.A (truthy r) (fun b s'' => EP X pins σ Q (.bool (g b)) s'') X.xe s') X.xe s := by
  refine thn (wpAny_call (run_fnR (us := [.ref a, u]) (vs := [.ref a, y]) F hr hx I (.cons rfl (.cons ry .nil)) q)) fun z s' hz => ?_
  obtain ⟨w, H', I', rw', b, rfl, q'⟩ := hz
  obtain rfl : z = Value.bool b := rw'
  exact wpAny_truthy_bool ⟨.bl (g b), H', I', rfl, q'⟩
theorem op_inO (hm : Meth X.K C "__contains__" f) (F : FnR X.prog X.w X.K X.mg X.base CX k f sp) (hr : Room k X.A) (hx : Passes CX X E) : OpR X (compareOp .In) (rInO C (fun b => b) sp E) := by
  intro pins s σ H y x u v Q I ry rx h
  obtain ⟨a, dx, fs, rfl, ea, q⟩ := h
  obtain rfl : v = Value.ref a := rx
  obtain ⟨mA, O, _⟩ := ins_get I.hok ea
  obtain ⟨od, J, _⟩ := O.look
  obtain ⟨m, hF⟩ := I.fr
  exact PySem.W.in_K hF I.ok.mod.kin J hm.at_ hm.fn (contO (g := fun b => b) hm F hr hx I ry ea q)
/-- str(x) by an own __str__ -/
def rStrO (C : Addr) (sp : Sp) (E : XK) : List V → Hp → VK → Prop := fun xs H Q => ∃ a dx fs, xs = [.ref a] ∧ H a = some (.ins C dx fs) ∧ sp [.ref a] H (fun v H' => ∃ z, v = .str z ∧ Q (.str z) H') E
theorem call_strO (hm : Meth X.K C "__str__" f) {fd : FuncData} {ps : List Str} (F : FnOk X.prog X.w X.K X.mg X.base CX k f fd ps sp) (hr : Room (k + 2) X.A) (hb : Binds X.K fd ps []) (hx : Passes CX X E) : CallR X (.type "str") (rStrO C sp E) := by
  intro pins s σ H xs us Q I r h
  obtain ⟨a, dx, fs, rfl, ea, q⟩ := h
  obtain ⟨u, rfl, ru⟩ := vals1 r
  obtain rfl : u = Value.ref a := ru
  obtain ⟨mA, O, _⟩ := ins_get I.hok ea
  obtain ⟨od, J, _⟩ := O.look
  have hl := F.len _ _ _ _ q
  refine PySem.W.kso_call hr.in1.in1.units0 I.kIn J hm.at_ hm.fn (wpAny_call (codeAny_mono (F.run X.A.in1.in1 X.stack s H ⟨[.ref a], []⟩ [.ref a] [.ref a] _ E hr.in1.in1 I.env0.in1.in1 (by
    have := hb s [.ref a] I.kIn (by simpa using hl)
    simpa using this) (.cons rfl .nil) q) fun rs s' hq => ?_))
  cases rs with
  | error e => exact hx pins σ H s e s' I hq
  | ok fl =>
    cases fl with
    | ret z =>
      obtain ⟨v, H', I', rv, y, rfl, q'⟩ := I.after hq
      obtain ⟨t, rfl⟩ := rv
      exact ⟨.str y, H', I', ⟨t, rfl⟩, q'⟩
    | next => exact False.elim hq
    | brk => exact False.elim hq
    | cont => exact False.elim hq
end
end Oo
set_option Elab.async false
set_option linter.all false
set_option maxRecDepth 100000
set_option maxHeartbeats 1000000
namespace Oo
open PySem PySem.Spec PyProof.Rows L2 PySem.W
section
variable {prog : Program} {w : World} {A : Around} {E : Value → Shared → Prop} {s : Shared} {K : Frag} {x C L f : Addr} {h₀ : Heap} {m : Str → Option Value} {ox : Obj} {od : Option Obj}
/-- what the operator's two names are at a built-in kind -/
structure KindOp (nm : String) (T : String) : Prop where
  fills : ∃ r, fillsNumberSlot (.type T) nm = pure r
  back : ∃ o, typeLookup (.type T) (dunderR nm) = pure o
theorem binary1_T {nm : String} {T : String} {b : Value} {Q : Value → Shared → Prop} (X : K.In s.heap) (I : InstAt s.heap x ox C od) (hb : Looks (model prog w) s.heap (typeOf b) (.type T)) (hc : selfFirst K C = true)
    (hs : findIn K (.ref C) (PySem.dunder nm) = some (some (.ref f))) (hn : findIn K (.ref C) (dunderR nm) = some none) (hsub : subIn K (.type T) (.ref C) = some false) (hf : isFn K (.ref f) = true) (ko : KindOp nm T)
    (h : wpAny (model prog w) A (call (.ref f) [.ref x, b]) (W.CmpBack Q) E s) : wpAny (model prog w) A (binaryOp1 nm (.ref x) b) (fun z s' => ∃ v, z = some v ∧ Q v s') E s := by
  obtain ⟨cd, hcd, hm⟩ := any_some hc
  have hm2 : ∃ l, cd.mro = .ref C :: l := by
    rcases e : cd.mro with _ | ⟨c0, l⟩
    · rw [e] at hm; exact nomatch hm
    · rw [e, List.head?_cons] at hm
      exact ⟨l, by rw [Option.some.inj (beq_iff_eq.mp hm)]⟩
  obtain ⟨l, hm2⟩ := hm2
  obtain ⟨r, hr⟩ := ko.fills
  obtain ⟨o, ho⟩ := ko.back
  have one : wpAny (model prog w) A (tryMethod (.ref x) (PySem.dunder nm) b) (fun z s' => ∃ v, z = some v ∧ Q v s') E s := by
    unfold tryMethod
    refine wpAny_bind (special_fn X I hs (beq_iff_eq.mp hf) (wpAny_mono h (fun v s' hv => ?_) fun _ _ e => e))
    cases v <;> first | exact hv.elim | exact wpAny_pure ⟨_, rfl, hv⟩
  unfold binaryOp1
  refine wpAny_bind (I.type.here (wpAny_bind (hb.here (wpAny_bind ((fills_K X hcd hm2 hs).here ?_)))))
  have e0 : ((Value.ref C) == (Value.type T)) = false := rfl
  simp only [e0, if_false, Bool.false_eq_true]
  rw [hr]
  refine wpAny_bind (wpAny_pure ?_)
  cases r with
  | false =>
    simp only [Bool.and_false, Bool.false_eq_true, if_false, Bool.false_and]
    refine wpAny_bind (wpAny_pure ?_)
    simp only [Bool.false_eq_true, if_false, if_true]
    refine wpAny_bind (wpAny_mono one (fun z s' hz => ?_) fun _ _ e => e)
    obtain ⟨v, rfl, q⟩ := hz
    exact wpAny_pure ⟨v, rfl, q⟩
  | true =>
    have num : Looks (model prog w) s.heap (numberSlotInPython (.ref C) nm) true := by
      intro A Q E s' k q
      have X' : K.In s'.heap := X.keeps k
      unfold numberSlotInPython
      refine wpAny_bind ((looks_findIn X hs) A _ E s' k ?_)
      refine wpAny_bind (m := calledByName (.ref C) (PySem.dunder nm) (some (.ref f))) (wpAny_pure ?_)
      refine wpAny_bind ((looks_findIn X hn) A _ E s' k ?_)
      refine wpAny_bind (m := calledByName (.ref C) (dunderR nm) none) (wpAny_pure ?_)
      exact wpAny_pure q
    simp only [Bool.and_true, if_true]
    refine wpAny_bind ((looks_subIn X hsub).here ?_)
    simp only [Bool.false_eq_true, if_false, Bool.not_false, if_true]
    refine wpAny_bind (num.here ?_)
    simp only [if_true]
    refine wpAny_bind (m := numberSlotInPython (.type T) nm) (wpAny_pure ?_)
    simp only [Bool.not_false, if_true]
    rw [ho]
    refine wpAny_bind (wpAny_pure ?_)
    refine wpAny_bind (wpAny_mono one (fun z s' hz => ?_) fun _ _ e => e)
    obtain ⟨v, rfl, q⟩ := hz
    exact wpAny_pure ⟨v, rfl, q⟩
theorem binop_T {op : Operator} {T : String} {b : Value} {Q : Value → Shared → Prop} (X : K.In s.heap) (I : InstAt s.heap x ox C od) (hb : Looks (model prog w) s.heap (typeOf b) (.type T)) (hc : selfFirst K C = true)
    (hs : findIn K (.ref C) (PySem.dunder op.info.2) = some (some (.ref f))) (hn : findIn K (.ref C) (dunderR op.info.2) = some none) (hsub : subIn K (.type T) (.ref C) = some false) (hf : isFn K (.ref f) = true) (ko : KindOp op.info.2 T)
    (h : wpAny (model prog w) A (call (.ref f) [.ref x, b]) (W.CmpBack Q) E s) : wpAny (model prog w) A (binaryOp op (.ref x) b) Q E s := by
  unfold binaryOp
  refine wpAny_holding (wpAny_bind (m := binaryOp1 op.info.2 (.ref x) b) (wpAny_mono (binary1_T X I hb hc hs hn hsub hf ko h) (fun z s' hz => ?_) fun _ _ e => e))
  obtain ⟨v, rfl, q⟩ := hz
  exact wpAny_pure q
theorem binary1_S {nm : String} {b : Value} {Q : Value → Shared → Prop} (X : K.In s.heap) (I : InstAt s.heap x ox C od) (hb : Looks (model prog w) s.heap (typeOf b) (.ref C)) (hc : selfFirst K C = true)
    (hs : findIn K (.ref C) (PySem.dunder nm) = some (some (.ref f))) (hf : isFn K (.ref f) = true)
    (h : wpAny (model prog w) A (call (.ref f) [.ref x, b]) (W.CmpBack Q) E s) : wpAny (model prog w) A (binaryOp1 nm (.ref x) b) (fun z s' => ∃ v, z = some v ∧ Q v s') E s := by
  obtain ⟨cd, hcd, hm⟩ := any_some hc
  have hm2 : ∃ l, cd.mro = .ref C :: l := by
    rcases e : cd.mro with _ | ⟨c0, l⟩
    · rw [e] at hm; exact nomatch hm
    · rw [e, List.head?_cons] at hm
      exact ⟨l, by rw [Option.some.inj (beq_iff_eq.mp hm)]⟩
  obtain ⟨l, hm2⟩ := hm2
  have one : wpAny (model prog w) A (tryMethod (.ref x) (PySem.dunder nm) b) (fun z s' => ∃ v, z = some v ∧ Q v s') E s := by
    unfold tryMethod
    refine wpAny_bind (special_fn X I hs (beq_iff_eq.mp hf) (wpAny_mono h (fun v s' hv => ?_) fun _ _ e => e))
    cases v <;> first | exact hv.elim | exact wpAny_pure ⟨_, rfl, hv⟩
  unfold binaryOp1
  refine wpAny_bind (I.type.here (wpAny_bind (hb.here (wpAny_bind ((fills_K X hcd hm2 hs).here ?_)))))
  simp only [beq_self_eq_true, if_true]
  refine wpAny_bind (wpAny_pure ?_)
  simp only [Bool.and_false, Bool.false_eq_true, if_false, Bool.false_and]
  refine wpAny_bind (wpAny_pure ?_)
  simp only [Bool.false_eq_true, if_false, if_true]
  refine wpAny_bind (wpAny_mono one (fun z s' hz => ?_) fun _ _ e => e)
  obtain ⟨v, rfl, q⟩ := hz
  exact wpAny_pure ⟨v, rfl, q⟩
/-- x |= y where the class has no own in-place form -/
theorem inplace_S {op : Operator} {b : Value} {Q : Value → Shared → Prop} (X : K.In s.heap) (I : InstAt s.heap x ox C od) (hb : Looks (model prog w) s.heap (typeOf b) (.ref C)) (hc : selfFirst K C = true)
    (hs : findIn K (.ref C) (PySem.dunder op.info.2) = some (some (.ref f))) (hi : Looks (model prog w) s.heap (fillsInplaceSlot (.ref C) op.info.2 (op == .Add)) false) (hf : isFn K (.ref f) = true)
    (h : wpAny (model prog w) A (call (.ref f) [.ref x, b]) (W.CmpBack Q) E s) : wpAny (model prog w) A (inplaceOp op (.ref x) b) Q E s := by
  unfold inplaceOp
  refine wpAny_holding (wpAny_bind (I.type.here (wpAny_bind (hi.here ?_))))
  simp only [Bool.false_eq_true, if_false]
  refine wpAny_bind (m := binaryOp1 op.info.2 (.ref x) b) (wpAny_mono (binary1_S X I hb hc hs hf h) (fun z s' hz => ?_) fun _ _ e => e)
  obtain ⟨v, rfl, q⟩ := hz
  exact wpAny_pure q
end
end Oo
set_option Elab.async false
set_option linter.all false
set_option maxRecDepth 100000
set_option maxHeartbeats 1000000
namespace Oo
open PySem PySem.Spec PyProof.Rows L2 PySem.W
def kindsT : List String := ["NoneType", "bool", "int", "str", "tuple", "list", "dict"]
def opsN : List String := ["or", "and", "sub", "xor"]
theorem look_some {T : String} {n : Str} (h : (builtinLookup T n).isSome = true) : ∃ o, typeLookup (.type T) n = pure o := by
  rw [typeLookup_type]
  cases e : builtinLookup T n with
  | none => rw [e] at h; exact nomatch h
  | some r => exact ⟨r, rfl⟩
theorem looks_all : (kindsT.all fun t => opsN.all fun n => (builtinLookup t (PySem.dunder n)).isSome && (builtinLookup t (dunderR n)).isSome) = true := by decide +kernel
theorem kindOp {T nm : String} (hT : T ∈ kindsT) (hn : nm ∈ opsN) : KindOp nm T := by
  have h := List.all_eq_true.mp (List.all_eq_true.mp looks_all T hT) nm hn
  obtain ⟨h1, h2⟩ := Bool.and_eq_true_iff.mp h
  obtain ⟨f, hf⟩ := look_some h1
  obtain ⟨r, hr⟩ := look_some h2
  refine ⟨⟨(f.isSome && !isSeqSlot f) || (r.isSome && !isSeqSlot r), ?_⟩, r, hr⟩
  simp only [fillsNumberSlot, hf, hr, pure_bind]
section
variable {M : Model} {h : Heap} {K : Frag} {C : Addr}
theorem noInplace {nm : String} {b : Bool} (X : K.In h) (hmro : ((clsIn K C).any fun cd => decide (cd.mro = [.ref C, .type "object"])) = true) (hn : findIn K (.ref C) (dunderI nm) = some none) (ho : typeLookup (.type "object") (dunderI nm) = pure none) :
    Looks M h (fillsInplaceSlot (.ref C) nm b) false := by
  intro A Q E s k q
  obtain ⟨cd, hc, hm⟩ := any_some hmro
  have hm := of_decide_eq_true hm
  unfold fillsInplaceSlot
  refine wpAny_bind ((looks_clsIn X hc).andThen (f := fun cd => pure cd.mro) .now A _ E s k ?_)
  rw [hm, List.anyM_cons]
  refine wpAny_bind (wpAny_bind ((looks_findIn X hn) A _ E s k ?_))
  refine wpAny_pure ?_
  simp only [Bool.false_eq_true, if_false]
  rw [List.anyM_cons]
  refine wpAny_bind ?_
  rw [ho]
  refine wpAny_bind (wpAny_pure (wpAny_pure ?_))
  simp only [Bool.false_eq_true, if_false, List.anyM_nil]
  exact wpAny_pure q
end
section
variable {X : Cx} {CX : CXT} {k : Nat} {C f : Addr} {sp : Sp} {E : XK}
/-- what the class must say for x op y, y of a built-in kind or of the class itself -/
structure OpC (K : Frag) (C f : Addr) (nm : String) : Prop where
  mt : Meth K C (PySem.dunder nm) f
  sf : selfFirst K C = true
  mro : ((clsIn K C).any fun cd => decide (cd.mro = [.ref C, .type "object"])) = true
  nr : findIn K (.ref C) (dunderR nm) = some none
  ni : findIn K (.ref C) (dunderI nm) = some none
  sub : ∀ T ∈ kindsT, subIn K (.type T) (.ref C) = some false
def okBin (C : Addr) (t : Value) : Prop := t = .ref C ∨ ∃ T ∈ kindsT, t = .type T
/-- x | y -/
theorem op_bin {op : Operator} (c : OpC X.K C f op.info.2) (hn : op.info.2 ∈ opsN) (F : FnR X.prog X.w X.K X.mg X.base CX k f sp) (hr : Room k X.A) (hx : Passes CX X E) : OpR X (binaryOp op) (rOwn2 X.K C (okBin C) sp E) := by
  intro pins s σ H x y v u Q I rx ry h
  obtain ⟨a, dx, fs, t, rfl, ea, ty, ok, q⟩ := h
  rcases ok with rfl | ⟨T, hT, rfl⟩
  · exact op_binO c.mt c.sf F hr hx pins s σ H _ y v u Q I rx ry ⟨a, dx, fs, _, rfl, ea, ty, rfl, q⟩
  · obtain rfl : v = Value.ref a := rx
    obtain ⟨mA, O, _⟩ := ins_get I.hok ea
    obtain ⟨od, J, _⟩ := O.look
    refine binop_T I.kIn J (looks_ty I ry ty) c.sf c.mt.at_ c.nr (c.sub T hT) c.mt.fn (kindOp hT hn) (thn (wpAny_call (run_fnR (us := [.ref a, u]) (vs := [.ref a, y]) F hr hx I (.cons rfl (.cons ry .nil)) q)) fun z s' hz => ?_)
    obtain ⟨w, H', I', rw', q'⟩ := hz
    exact back_of rw' ⟨w, H', I', rw', q'⟩
/-- x |= y, y of the class -/
theorem op_inp {op : Operator} (c : OpC X.K C f op.info.2) (ho : typeLookup (.type "object") (dunderI op.info.2) = pure none) (F : FnR X.prog X.w X.K X.mg X.base CX k f sp) (hr : Room k X.A) (hx : Passes CX X E) : OpR X (inplaceOp op) (rOwn2 X.K C (fun t => t = .ref C) sp E) := by
  intro pins s σ H x y v u Q I rx ry h
  obtain ⟨a, dx, fs, t, rfl, ea, ty, rfl, q⟩ := h
  obtain rfl : v = Value.ref a := rx
  obtain ⟨mA, O, _⟩ := ins_get I.hok ea
  obtain ⟨od, J, _⟩ := O.look
  refine inplace_S I.kIn J (looks_ty I ry ty) c.sf c.mt.at_ (noInplace I.kIn c.mro c.ni ho) c.mt.fn (thn (wpAny_call (run_fnR (us := [.ref a, u]) (vs := [.ref a, y]) F hr hx I (.cons rfl (.cons ry .nil)) q)) fun z s' hz => ?_)
  obtain ⟨w, H', I', rw', q'⟩ := hz
  exact back_of rw' ⟨w, H', I', rw', q'⟩
theorem no_inp {nm : String} (h : nm ∈ opsN) : typeLookup (.type "object") (dunderI nm) = pure none := by
  have z : (opsN.all fun n => builtinLookup "object" (dunderI n) == some none) = true := by decide +kernel
  have := beq_iff_eq.mp (List.all_eq_true.mp z nm h)
  rw [typeLookup_type, this]
end
end Oo
set_option Elab.async false
set_option linter.all false
set_option maxRecDepth 100000
set_option maxHeartbeats 1000000
namespace Oo
open PySem PySem.Spec PyProof.Rows L2 PySem.W
section
variable {prog : Program} {w : World} {A : Around} {E : Value → Shared → Prop} {s : Shared} {K : Frag} {x C L f : Addr} {h₀ : Heap} {m : Str → Option Value} {ox : Obj} {od : Option Obj} {b tb : Value}
open Builtin in
theorem obj_ne {Q : Value → Shared → Prop} (hu : A.in1.units < cLine) (X : K.In s.heap) (I : InstAt s.heap x ox C od) (hm : mroIn K C (.type "object") = some true) (he : findIn K (.ref C) "__eq__" = some (some (.ref f))) (hf : isFn K (.ref f) = true)
    (h : wpAny (model prog w) A.in1 (call (.ref f) [.ref x, b]) (fun v s' => ∃ r, v = .bool r ∧ Q (.bool (!r)) s') E s) : wpAny (model prog w) A (call (.builtin "object.__ne__") [.ref x, b]) Q E s := by
  refine wpAny_call (codeAny_call_builtin PySem.F.cmp_object.ne.plain PySem.F.cmpEntry_ne (check_slot (i := "object.__ne__") (owner := "object") (n := "__ne__") PySem.F.cmpKind_ne PySem.F.cmpSplit_ne (I.type.andThen (looks_mroIn X hm)) (PySem.F.cmpArgs_ne _ _) ?_))
  unfold Builtin.«object.__ne__»
  refine wpAny_bind (m := slotArgs "__ne__" 1 _) (wpAny_pure ?_)
  refine wpAny_bind (m := cRoomFor _ _) (wpAny_cRoomFor hu ?_)
  refine wpAny_bind (m := callSpecialIfBound? (.ref x) (Str.ofString "__eq__") _) (ifBound_K X I he hf (wpAny_mono h (fun r s' hq => ?_) fun _ _ y => y))
  obtain ⟨b1, rfl, q⟩ := hq
  exact wpAny_bind (wpAny_truthy_bool (wpAny_pure q))
theorem ne_K {Q : Value → Shared → Prop} (hu : A.units < cLine) (hu1 : A.in1.units < cLine) (X : K.In s.heap) (I : InstAt s.heap x ox C od) (hb : Looks (model prog w) s.heap (typeOf b) tb) (hn : notFirst K C tb = true)
    (hs : findIn K (.ref C) "__ne__" = some (some (.builtin "object.__ne__"))) (hm : mroIn K C (.type "object") = some true) (he : findIn K (.ref C) "__eq__" = some (some (.ref f))) (hf : isFn K (.ref f) = true)
    (h : wpAny (model prog w) A.in1 (call (.ref f) [.ref x, b]) (fun v s' => ∃ r, v = .bool r ∧ Q (.bool (!r)) s') E s) : wpAny (model prog w) A (richCompare .NotEq (.ref x) b) Q E s := by
  have one : wpAny (model prog w) A (tryCompare (.ref x) "__ne__" b) (fun z s' => ∃ r, z = some (.bool (!r)) ∧ Q (.bool (!r)) s') E s := by
    unfold tryCompare
    simp only [callSpecialIfBound?, bindSpecialIfBound?]
    have body : wpAny (model prog w) A (call (.builtin "object.__ne__") [.ref x, b]) (fun v s' => ∃ r, v = .bool (!r) ∧ Q (.bool (!r)) s') E s :=
      obj_ne hu1 X I hm he hf (wpAny_mono h (fun v s' ⟨r, e, q⟩ => ⟨r, e, r, rfl, q⟩) fun _ _ e => e)
    refine wpAny_bind (wpAny_holding (wpAny_bind (wpAny_bind (wpAny_bind (I.type.here ((looks_findIn X hs).here ?_))))))
    refine wpAny_bind (wpAny_askSetting (wpAny_ite ?_))
    have fin : wpAny (model prog w) A (call (.builtin "object.__ne__") ([.ref x] ++ [b]) >>= fun v => pure (some v)) (fun a s' => wpAny (model prog w) A (match a with | some .notImplemented => pure none | none => pure none | some v => pure (some v)) (fun z s'' => ∃ r, z = some (.bool (!r)) ∧ Q (.bool (!r)) s'') E s') E s :=
      wpAny_bind (wpAny_mono body (fun v s' ⟨r, e, q⟩ => by subst e; exact wpAny_pure (wpAny_pure ⟨r, rfl, q⟩)) fun _ _ e => e)
    split
    · refine wpAny_bind ((Looks.of_pure (PySem.F.cmp_object.ne.bind _)).here (wpAny_pure ?_))
      exact fin
    · refine wpAny_tryCatch (wpAny_bind ((Looks.of_pure (PySem.F.cmp_object.ne.bind _)).here (wpAny_pure ?_)))
      exact fin
  unfold richCompare
  simp only [oneThing_ref]
  refine wpAny_holding (wpAny_bind (wpAny_cRoomFor hu ?_))
  refine wpAny_bind (I.type.here (wpAny_bind (hb.here ?_)))
  split
  · rename_i q
    have e : subIn K tb (.ref C) = some false := by
      rcases Bool.or_eq_true_iff.mp hn with z | z
      · rw [beq_iff_eq.mp z] at q; simp at q
      · exact beq_iff_eq.mp z
    refine wpAny_bind ((looks_subIn X e).here ?_)
    simp only [Bool.false_eq_true, if_false]
    refine wpAny_bind (wpAny_mono one (fun r s' z => ?_) fun _ _ e => e)
    obtain ⟨v, rfl, hq⟩ := z
    exact wpAny_pure hq
  · refine wpAny_bind (wpAny_pure ?_)
    simp only [Bool.false_eq_true, if_false]
    refine wpAny_bind (wpAny_mono one (fun r s' z => ?_) fun _ _ e => e)
    obtain ⟨v, rfl, hq⟩ := z
    exact wpAny_pure hq
end
section
variable {X : Cx} {CX : CXT} {k : Nat} {C f : Addr} {sp : Sp} {E : XK}
/-- x != y by the own == -/
def rNeO (K : Frag) (C : Addr) (sp : Sp) (E : XK) : R2 := fun x y H Q => ∃ a dx fs t, x = .ref a ∧ H a = some (.ins C dx fs) ∧ TyX K H y t ∧ notFirst K C t = true ∧ sp [.ref a, y] H (fun v H' => ∃ r, v = .bl r ∧ Q (.bl (!r)) H') E
theorem op_neO {fd : FuncData} {ps : List Str} (hm : Meth X.K C "__eq__" f) (hn : findIn X.K (.ref C) "__ne__" = some (some (.builtin "object.__ne__"))) (ho : mroIn X.K C (.type "object") = some true)
    (F : FnOk X.prog X.w X.K X.mg X.base CX k f fd ps sp) (hb : Binds X.K fd ps []) (hr : Room (k + 1) X.A) (hx : Passes CX X E) : OpR X (compareOp .NotEq) (rNeO X.K C sp E) := by
  intro pins s σ H x y v u Q I rx ry h
  obtain ⟨a, dx, fs, t, rfl, ea, ty, nf, q⟩ := h
  obtain rfl : v = Value.ref a := rx
  obtain ⟨mA, O, _⟩ := ins_get I.hok ea
  obtain ⟨od, J, _⟩ := O.look
  have hl := F.len _ _ _ _ q
  show wpAny _ _ (richCompare .NotEq (.ref a) u) _ _ s
  refine ne_K hr.units0 hr.in1.units0 I.kIn J (looks_ty I ry ty) nf hn ho hm.at_ hm.fn (wpAny_call (codeAny_mono (F.run X.A.in1 X.stack s H ⟨[.ref a, u], []⟩ [.ref a, u] [.ref a, y] _ E hr.in1 I.env0.in1 (by
    have := hb s [.ref a, u] I.kIn (by simpa using hl)
    simpa using this) (.cons rfl (.cons ry .nil)) q) fun rs s' hq => ?_))
  cases rs with
  | error e => exact hx pins σ H s e s' I hq
  | ok fl =>
    cases fl with
    | ret z =>
      obtain ⟨v, H', I', rv, r, rfl, q'⟩ := I.after hq
      obtain rfl : z = Value.bool r := rv
      exact ⟨r, rfl, .bl (!r), H', I', rfl, q'⟩
    | next => exact False.elim hq
    | brk => exact False.elim hq
    | cont => exact False.elim hq
end
end Oo
set_option Elab.async false
set_option linter.all false
set_option maxRecDepth 100000
set_option maxHeartbeats 1000000
/-! x[i], x[lo:hi], x[lo:hi:st] by an own __getitem__; the slice as an object of its own. -/
namespace Oo
open PySem PySem.Spec PyProof.Rows L2 PySem.W
/-- the slice object at a: its three parts -/
def SlcO (a : Addr) (lo hi st : Option Int) : HO := .ext fun h => ∃ vl vu vs, h.IsSliceOf a vl vu vs ∧ IsPart vl lo ∧ IsPart vu hi ∧ IsPart vs st
theorem slc_ok {P : Program} {w : World} {H : Hp} {h : Heap} {a : Addr} {lo hi st : Option Int} {vl vu vs : Value} (e : h.IsSliceOf a vl vu vs) (p1 : IsPart vl lo) (p2 : IsPart vu hi) (p3 : IsPart vs st) : ObjOk P w H h a (SlcO a lo hi st) := by
  obtain ⟨o, e1, e2, e3⟩ := e
  exact ⟨⟨vl, vu, vs, ⟨o, e1, e2, e3⟩, p1, p2, p3⟩, ⟨o, e1⟩, fun _ _ ⟨vl, vu, vs, ⟨u, b1, b2, b3⟩, c1, c2, c3⟩ k => ⟨vl, vu, vs, ⟨u, k _ b1, b2, b3⟩, c1, c2, c3⟩⟩
theorem FnOk.r0 {P : Program} {w : World} {K : PySem.W.Frag} {mg : Str → Option Value} {base : Heap} {CX : CXT} {k : Nat} {f : Addr} {fd : FuncData} {ps : List Str} {sp : Sp} (F : FnOk P w K mg base CX k f fd ps sp) (hb : Binds K fd ps []) : FnR P w K mg base CX k f sp :=
  (FnOk.raw (ds := []) (dvs := []) F hb .nil).imp fun vs H Q E h => by rw [List.append_nil]; exact h
section
variable {X : Cx} {CX : CXT} {k : Nat} {C f : Addr} {sp : Sp} {E : XK} {pins : List (Addr × Obj)} {σ : L2.St} {H : Hp} {s : Shared}
/-- the own __getitem__ called at the object a with y -/
def rGetO (C : Addr) (sp : Sp) (E : XK) : R2 := fun x y H Q => ∃ a dx fs, x = .ref a ∧ H a = some (.ins C dx fs) ∧ sp [.ref a, y] H Q E
theorem run_at {A : Around} (F : FnR X.prog X.w X.K X.mg X.base CX k f sp) (hr : Room k A) (hx : Passes CX X E) (e0 : Env0 X.prog X.w X.K X.mg X.base A X.stack s H) (I : Inv X pins σ H s) {us : List Value} {vs : List V} {Q : VK} (r : Vals vs us) (q : sp vs H Q E) :
    wpAny (model X.prog X.w) A (call (.ref f) us) (EP X pins σ Q) X.xe s := by
  refine wpAny_call (codeAny_mono (F A X.stack s H us vs Q E hr e0 r q) fun rs s' hq => ?_)
  cases rs with
  | error e => exact hx pins σ H s e s' I hq
  | ok fl =>
    cases fl with
    | ret z => exact I.after hq
    | next => exact False.elim hq
    | brk => exact False.elim hq
    | cont => exact False.elim hq
theorem sub_at {value slice : Expr} (hm : Meth X.K C "__getitem__" f) (hf : fnIn X.K f = true) (F : FnR X.prog X.w X.K X.mg X.base CX k f sp) (hr : Room (k + 1) X.A) (hx : Passes CX X E) {a dx : Addr} {fs : List (Str × V)} {y : V} {u : Value} {Q : VK} (I : Inv X pins σ H s) (ry : RelV y u)
    (ea : H a = some (.ins C dx fs)) (q : sp [.ref a, y] H Q E) (hsl : subscripted slice true (.ref a) u = runValue (.builtin "lifetime.subscript" ⟨[.ref a, u], []⟩) := by with_unfolding_all rfl) :
    wpAny (model X.prog X.w) X.A (subscriptTail value slice (.ref a) u) (EP X pins σ Q) X.xe s := by
  obtain ⟨mA, O, _⟩ := ins_get I.hok ea
  obtain ⟨od, J, _⟩ := O.look
  obtain ⟨m, hF⟩ := I.fr
  exact sub_K hF I.ok.mod.kin J hm.at_ hf hm.fn (run_at F hr.in1 hx I.env0.in1 I (us := [.ref a, u]) (vs := [.ref a, y]) (.cons rfl (.cons ry .nil)) q) hsl
theorem slice_at {value slice : Expr} (hm : Meth X.K C "__getitem__" f) (hf : fnIn X.K f = true) (hq : noSeq X.K C = true) (F : FnR X.prog X.w X.K X.mg X.base CX k f sp) (hr : Room (k + 1) X.A) (hx : Passes CX X E) {a dx : Addr} {fs : List (Str × V)} {y : V} {u : Value} {Q : VK} (I : Inv X pins σ H s) (ry : RelV y u)
    (ea : H a = some (.ins C dx fs)) (q : sp [.ref a, y] H Q E) (hsl : subscripted slice true (.ref a) u = operate [u, .ref a] (getItem (.ref a) u) := by with_unfolding_all rfl) :
    wpAny (model X.prog X.w) X.A (subscriptTail value slice (.ref a) u) (EP X pins σ Q) X.xe s := by
  obtain ⟨mA, O, _⟩ := ins_get I.hok ea
  obtain ⟨od, J, _⟩ := O.look
  obtain ⟨m, hF⟩ := I.fr
  have X₀ : X.K.In s.heap := I.kIn
  unfold fnIn at hf
  split at hf
  · rename_i e
    unfold subscriptTail getitemInPython
    refine wpAny_bind (wpAny_bind (wpAny_bind (J.type.here ((looks_findIn X₀ hm.at_).here ?_))))
    dsimp only
    refine wpAny_bind (wpAny_load (X₀ _ _ e) (wpAny_pure ?_))
    dsimp only
    rw [hsl]
    refine wpAny_bind (wpAny_operateT (getItem_K hF I.ok.mod.kin J hq hm.at_ hm.fn (thn (run_at F (hr.mono (by omega)) hx I.env0 I (us := [.ref a, u]) (vs := [.ref a, y]) (.cons rfl (.cons ry .nil)) q) fun z s' hz => ?_)))
    exact wpAny_bind (wpAny_letTemporaryGo (wpAny_pure hz))
  · cases hf
section
variable {a b : Expr} {ta tb : TE} {lo hi st : Option Expr} {tl th tt : TO} {pos p2 : Pos}
/-- x[i] -/
theorem pe_getO (hm : Meth X.K C "__getitem__" f) (hf : fnIn X.K f = true) (F : FnR X.prog X.w X.K X.mg X.base CX k f sp) (hr : Room (k + 1) X.A) (hx : Passes CX X E) (ha : PE X a ta) (hb : PE X b tb)
    (hsl : ∀ o i, subscripted b true o i = runValue (.builtin "lifetime.subscript" ⟨[o, i], []⟩) := by intro _ _; rfl) : PE X (.Subscript a b pos) (tOp (rGetO C sp E) ta tb) := by
  refine ⟨fun pins s σ H Q I h => ?_⟩
  refine Subscript_ (binT ha hb I h fun v u s2 x y H2 I2 rx ry q => ?_)
  obtain ⟨p, dx, fs, rfl, ea, q⟩ := q
  obtain rfl : v = Value.ref p := rx
  exact sub_at hm hf F hr hx I2 ry ea q (hsl _ _)
/-- x[lo:hi], x[lo:hi:st] -/
def tSlcO (C : Addr) (sp : Sp) (E : XK) (ta : TE) (tl th tt : TO) : TE := fun σ H Q => ta σ H fun x H1 => tl σ H1 fun l H2 => th σ H2 fun u H3 => tt σ H3 fun t H4 => ∀ p, H4 p = none → rGetO C sp E x (.ref p) (upd H4 p (SlcO p l u t)) Q
theorem parts_at {pins : List (Addr × Obj)} {s : Shared} {σ : L2.St} {H : Hp} {R : V → Hp → Prop} {x : V} {W : Value → Shared → Prop} (hl : PO X lo tl) (hu : PO X hi th) (ht : PO X st tt) (I : Inv X pins σ H s)
    (h : tl σ H fun l H2 => th σ H2 fun u H3 => tt σ H3 fun t H4 => ∀ p, H4 p = none → R (.ref p) (upd H4 p (SlcO p l u t))) (hw : ∀ p H' s', Inv X pins σ H' s' → R (.ref p) H' → W (.ref p) s') :
    wpAny (model X.prog X.w) X.A (eval (.Slice lo hi st p2) X.env) W X.xe s := by
  refine wpAny_Slice (thn (hl.run pins s σ H _ I h) fun vl s2 ⟨l, H2, I2, pl, q2⟩ => thn (hu.run pins s2 σ H2 _ I2 q2) fun vu s3 ⟨u, H3, I3, pu, q3⟩ => thn (ht.run pins s3 σ H3 _ I3 q3) fun vs s4 ⟨t, H4, I4, ps, q4⟩ => ?_)
  have J := I4.laid (t' := s4.toks) (o := SlcO s4.heap.objs.size l u t) (fun b ob q => Heap.get?_push_of_some _ q) (Nat.le_refl _) (slc_ok (Heap.IsSliceOf.new s4.heap vl vu vs) pl pu ps)
  exact hw _ _ _ J (q4 _ (I4.hok.fresh (Nat.le_refl _)))
theorem pe_slcO (hm : Meth X.K C "__getitem__" f) (hf : fnIn X.K f = true) (hq : noSeq X.K C = true) (F : FnR X.prog X.w X.K X.mg X.base CX k f sp) (hr : Room (k + 1) X.A) (hx : Passes CX X E) (ha : PE X a ta) (hl : PO X lo tl) (hu : PO X hi th) :
    PE X (.Subscript a (.Slice lo hi none p2) pos) (tSlcO C sp E ta tl th tNoPart) := by
  refine ⟨fun pins s σ H Q I h => ?_⟩
  refine Subscript_ (thn (ha.run pins s σ H _ I h) fun v s1 ⟨x, H1, I1, rx, q⟩ => ?_)
  refine parts_at (x := x) (R := fun y H' => rGetO C sp E x y H' Q) hl hu po_none I1 q fun p H' s' J q' => ?_
  obtain ⟨o, dx, fs, rfl, ea, q'⟩ := q'
  obtain rfl : v = Value.ref o := rx
  exact slice_at hm hf hq F hr hx J (y := .ref p) rfl ea q'
theorem pe_slcO3 {e3 : Expr} (hm : Meth X.K C "__getitem__" f) (hf : fnIn X.K f = true) (F : FnR X.prog X.w X.K X.mg X.base CX k f sp) (hr : Room (k + 1) X.A) (hx : Passes CX X E) (ha : PE X a ta) (hl : PO X lo tl) (hu : PO X hi th) (ht : PO X (some e3) tt) :
    PE X (.Subscript a (.Slice lo hi (some e3) p2) pos) (tSlcO C sp E ta tl th tt) := by
  refine ⟨fun pins s σ H Q I h => ?_⟩
  refine Subscript_ (thn (ha.run pins s σ H _ I h) fun v s1 ⟨x, H1, I1, rx, q⟩ => ?_)
  refine parts_at (x := x) (R := fun y H' => rGetO C sp E x y H' Q) hl hu ht I1 q fun p H' s' J q' => ?_
  obtain ⟨o, dx, fs, rfl, ea, q'⟩ := q'
  obtain rfl : v = Value.ref o := rx
  exact sub_at hm hf F hr hx J (y := .ref p) rfl ea q'
end
end
end Oo
set_option Elab.async false
set_option linter.all false
set_option maxRecDepth 100000
set_option maxHeartbeats 1000000
/-! C(*xs), c(*xs) by a local name, C(), C.m(e) of a static method, C.m(k = e) of a class method. -/
namespace Oo
open PySem PySem.Spec PyProof.Rows L2 PySem.W
section
variable {X : Cx} {CX : CXT} {k : Nat} {C f g p : Addr} {sp : Sp} {E : XK} {mc : Value}
/-- what is asked of __init__ when an instance of the class at C is made with the values vs -/
def wNew (C : Addr) (sp : Sp) (E : XK) (vs : List V) (H1 : Hp) (Q : VK) : Prop := ∀ x dx, H1 x = none → H1 dx = none → dx ≠ x → sp (V.ref x :: vs) (upd (upd H1 dx (.own x)) x (.ins C dx [])) (fun v H2 => v = .non ∧ Q (.ref x) H2) E
def tStarNew (K : Frag) (C : Addr) (sp : Sp) (E : XK) (te : TE) : TE := fun σ H Q => te σ H fun y H1 => ∃ a xs, y = V.ref a ∧ (SqT K H1 a xs ∨ SqL K H1 a xs) ∧ wNew C sp E xs H1 Q
section
variable {x : Str} {e : Expr} {te : TE} {sp_ p1 pos : Pos}
theorem pe_newS (M : Mk X.K C f) (F : FnR X.prog X.w X.K X.mg X.base CX k f sp) (hr : Room (k + 1) X.A) (hg : Gl X x) (hm : X.mg x = some (.ref C)) (hx : Passes CX X E) (he : PE X e te) (hd : (x == ("__debug__" : Str)) = false := by decide)
    (hst : starEach [.Starred e sp_] X.env = [(true, eval e X.env)] := by rfl) : PE X (.Call (.Name x p1) [.Starred e sp_] [] pos) (tStarNew X.K C sp E te) := by
  refine ⟨fun pins s σ H Q I h => ?_⟩
  refine wpAny_Call_Name_kw (ld_glob I hg hm ?_ hd)
  refine callWith_S (h₀ := X.base) I.ok.mod.kin M.kp (thn (he.run pins s σ H _ I h) fun v s1 ⟨y, H1, I1, ry, a, xs, ey, hxs, q⟩ => ?_) hst
  subst ey
  obtain rfl : v = Value.ref a := ry
  exact StX.star_any I1 hxs fun us s2 I2 rv => ⟨I2.kIn, StX.run_makeR M F hr hx I2 rv q⟩
/-- c(*xs), the local c holds the class -/
theorem pe_newL {i : Nat} (M : Mk X.K C f) (F : FnR X.prog X.w X.K X.mg X.base CX k f sp) (hr : Room (k + 1) X.A) (hN : X.N[i]? = some x) (hv : Vis X.env.scope x) (hx : Passes CX X E) (he : PE X e te)
    (hd : (x == ("__debug__" : Str)) = false := by decide) (hcd : (x == ("__classdict__" : Str)) = false := by decide)
    (hst : starEach [.Starred e sp_] X.env = [(true, eval e X.env)] := by rfl) : PE X (.Call (.Name x p1) [.Starred e sp_] [] pos) (fun σ H Q => σ[i]? = some (some (.ref C)) ∧ tStarNew X.K C sp E te σ H Q) := by
  refine ⟨fun pins s σ H Q I h => ?_⟩
  obtain ⟨hs, h⟩ := h
  refine wpAny_Call_Name_kw (thn ((pe_var (pos := p1) hN hv hd hcd).run pins s σ H (fun v H1 => v = .ref C ∧ H1 = H) I ⟨.ref C, hs, rfl, rfl⟩) fun u s0 ⟨v, H0, I0, r0, q0⟩ => ?_)
  obtain ⟨rfl, rfl⟩ := q0
  obtain rfl : u = Value.ref C := r0
  refine callWith_S (h₀ := X.base) I.ok.mod.kin M.kp (thn (he.run pins s0 σ _ _ I0 h) fun v s1 ⟨y, H1, I1, ry, a, xs, ey, hxs, q⟩ => ?_) hst
  subst ey
  obtain rfl : v = Value.ref a := ry
  exact StX.star_any I1 hxs fun us s2 I2 rv => ⟨I2.kIn, StX.run_makeR M F hr hx I2 rv q⟩
/-- C() -/
theorem pe_new0 (M : Mk X.K C f) (F : FnR X.prog X.w X.K X.mg X.base CX k f sp) (hr : Room (k + 1) X.A) (hg : Gl X x) (hm : X.mg x = some (.ref C)) (hx : Passes CX X E) (hd : (x == ("__debug__" : Str)) = false := by decide) :
    PE X (.Call (.Name x p1) [] [] pos) (fun _ H Q => wNew C sp E [] H Q) := by
  refine ⟨fun pins s σ H Q I h => ?_⟩
  refine wpAny_Call_Name_kw (ld_glob I hg hm ?_ hd)
  exact callWith_K0 (first := []) I.kIn M.kp (StX.run_makeR (us := []) (vs := []) M F hr hx I .nil h)
end
/-- C.m is a static method: its record at p, its def at g -/
structure SMet (K : Frag) (C : Addr) (mc : Value) (m : Str) (p g : Addr) : Prop where
  at_ : findCls K (.ref C) mc m = some (.get (.builtin "staticmethod.__get__") (.ref p) .none (.ref C))
  rc : ∃ rest, recIn K p "staticmethod" = some (.ref g :: rest)
  kp : keepIn K (.ref g) = true
theorem smet_of {K : Frag} {m : Str} {C : Addr} (h : He5.wrapB K C "staticmethod" "staticmethod.__get__" m = true) (hk : keepIn K (.ref (He5.wf K C "staticmethod" m)) = true) : SMet K C (.type "type") m (He.ma K C m) (He5.wf K C "staticmethod" m) := by
  obtain ⟨h1, h2⟩ := He5.wrapB_ok h
  exact ⟨h1, h2, hk⟩
section
variable {pins : List (Addr × Obj)} {σ : L2.St} {H : Hp} {s : Shared} {m : Str} {A : Around} {E' : Value → Shared → Prop}
theorem getsm_ok {pl : Sem Bool} {Q : Value × List Value → Shared → Prop} (I : Inv X pins σ H s) (r : ClX.CRead X.K C mc) (c : SMet X.K C mc m p g) (h : ∀ s', Inv X pins σ H s' → Q (.ref g, []) s') : wpAny (model X.prog X.w) A (getMethod (.ref C) m pl) Q E' s := by
  obtain ⟨rest, hp⟩ := c.rc
  refine method_cls I.kIn r.ga (cls_bind I.kIn r.rd c.at_ ?_)
  exact wpAny_call (sm_get (s := { s with toks := s.toks + 1 }) I.kIn hp (handed_on rfl (h _ (I.tok _))))
end
section
variable {o e : Expr} {es : List Expr} {to : TE} {t : TA} {m : Str} {apos pos : Pos} {pl : Sem Bool}
def tSMeth (C : Addr) (sp : Sp) (E : XK) (ta : TE) (t : TA) : TE := fun σ H Q => ta σ H fun x H1 => x = .ref C ∧ t σ H1 fun vs H2 => sp vs H2 Q E
/-- C.m(e), m a static method -/
theorem pe_smeth (he : PE X o to) (r : ClX.CRead X.K C mc) (c : SMet X.K C mc m p g) (F : FnR X.prog X.w X.K X.mg X.base CX k g sp) (hr : Room k X.A) (hx : Passes CX X E) (ha : PA X (e :: es) t)
    (hst : starEach (e :: es) X.env = (false, eval e X.env) :: starEach es X.env := by rfl) (hpl : (backTo pos (starEach es X.env)).any (·.1) = false := by rfl)
    (ht : eval (.Call (.Attribute o m apos) (e :: es) [] pos) X.env = (do
      let u ← eval o X.env
      standAt apos.atName
      let (f, first) ← holding [u] (getMethod u m pl)
      callWith pos f first (backTo pos (starEach (e :: es) X.env)) (backToKw pos (keywordEach [] X.env))) := by rfl) :
    PE X (.Call (.Attribute o m apos) (e :: es) [] pos) (tSMeth C sp E to t) := by
  refine ⟨fun pins s σ H Q I h => ?_⟩
  refine methodCall_KW (pl := pl) (thn (he.run pins s σ H _ I h) fun u s1 ⟨x, H1, I1, rx, ex, q⟩ => ?_) ht
  subst ex
  obtain rfl : u = Value.ref C := rx
  refine getsm_ok I1 r c fun s2 I2 => ?_
  refine callWith_K (h₀ := X.base) I2.ok.mod.kin c.kp (thn (ha.run pos pins s2 σ H1 _ I2 q) fun us s3 ⟨vs, H2, I3, rv, q2⟩ => ⟨I3.kIn, ?_⟩) hst hpl
  exact wpAny_call (run_fnR F hr hx I3 rv q2)
end
end
end Oo
set_option Elab.async false
set_option linter.all false
set_option maxRecDepth 100000
set_option maxHeartbeats 2000000
/-! C(e, .., k = v) of a class whose __init__ is (self, *v, k=None). -/
namespace Sk
open PySem PySem.Spec PyProof.Rows L2 PySem.W StX
abbrev SpK : Type := List V → V → Hp → VK → XK → Prop
/-- t looks q up in the dict at D, finds v, and goes on as u -/
def KwOne {α : Type} (D : Addr) (q : Str) (v : Value) (t u : Sem α) : Prop := ∃ (β γ : Type) (k1 : Option Value → Sem β) (k2 : β → Sem γ) (k3 : γ → Sem α) (a : β), t = ((nsGet D q >>= k1) >>= k2) >>= k3 ∧ k1 (some v) = pure a ∧ k2 a >>= k3 = u
theorem KwOne.wp {α : Type} {K : Frag} {M : Model} {A : Around} {D : Addr} {q : Str} {v : Value} {t u : Sem α} {Q : α → Shared → Prop} {E : Value → Shared → Prop} {s : Shared} (k : KwOne D q v t u) (X : K.In s.heap) (h : nsIn K D q = some (some v)) (g : wpAny M A u Q E s) : wpAny M A t Q E s := by
  obtain ⟨β, γ, k1, k2, k3, a, e1, e2, e3⟩ := k
  have l1 : Looks M s.heap (nsGet D q >>= k1) a := (looks_nsIn X h).andThen (Looks.of_pure e2)
  rw [e1, bind_assoc]
  refine wpAny_bind (l1.here ?_)
  rw [e3]
  exact g
/-- a def called with values and perhaps the keyword kn -/
def FnSK (P : Program) (w : World) (K : Frag) (mg : Str → Option Value) (base : Heap) (CX : CXT) (k : Nat) (f : Addr) (kn : Str) (sp : SpK) : Prop :=
  ∀ (A : Around) (outer : List Env) (s : Shared) (H : Hp) (us : List Value) (vs : List V) (kw : List (Str × Value)) (u : V) (Q : VK) (E : XK), Room k A → Env0 P w K mg base A outer s H → Vals vs us →
    ((kw = [] ∧ u = .non) ∨ ∃ uv, kw = [(kn, uv)] ∧ RelV u uv) → sp vs u H Q E → codeAny (model P w) A (.call (.ref f) ⟨us, kw⟩) (CR CX outer P w H s Q E) s
def spSK (sp : Sp) : SpK := fun vs u H Q E => ∃ v0 rest, vs = v0 :: rest ∧ rest.length ≤ sizeLine ∧ ∀ p, H p = none → sp [v0, u, .ref p] (upd H p (.tup rest)) Q E
section
variable {CX : CXT} {P : Program} {w : World} {K : Frag} {mg : Str → Option Value} {base : Heap} {k : Nat} {f : Addr} {name qual : Str} {params : Arguments} {body : List Stmt} {scope : Scope} {dV kV doc pm cdv ct oc : Value} {an od : Option Addr}
  {osl : Array (Option Value)} {N : List Str} {sp : Sp} {p1 kn pv : Str}
theorem fn_sk (lk : K.lookup f = some ⟨oc, od, .func (fnOf name qual params body scope dV kV doc pm an cdv ct), osl⟩) (hcd : codeIn K cdv qual = true) (S : FnScope N [p1, kn, pv] scope) (hCX : CXUp CX)
    (hb1 : ∀ (a : Value) (rest : List Value) (u : Value), bindArgs (fnOf name qual params body scope dV kV doc pm an cdv ct) ⟨a :: rest, [(kn, u)]⟩ = (newTuple rest >>= fun t => pure [(p1, a), (kn, u), (pv, t)]))
    (hb0 : ∃ D, nsIn K D kn = some (some .none) ∧ ∀ (a : Value) (rest : List Value), KwOne D kn .none (bindArgs (fnOf name qual params body scope dV kV doc pm an cdv ct) ⟨a :: rest, []⟩) (newTuple rest >>= fun t => pure [(p1, a), (kn, .none), (pv, t)]))
    (hbody : ∀ (A : Around) (outer : List Env) (s : Shared) (H : Hp) (vs : List V) (Q : VK) (E : XK), Room k (A.deeper (envOfC qual scope s.heap.objs.size f cdv)) → sp vs H Q E →
      ∃ t, PSs (cxOf CX P w K mg base N qual scope f cdv A outer s H E) body t ∧ t { nx := fun _ H' => Q .non H', rt := Q } (start N vs) H) : FnSK P w K mg base CX (k + 1) f kn (spSK sp) := by
  intro A outer s H us vs kw u Q E hr e0 r hkw hsp
  obtain ⟨v0, rest, ev, hz, hq⟩ := hsp
  subst ev
  obtain ⟨u0, us, rfl, r1, r2⟩ : ∃ u0 us', us = u0 :: us' ∧ RelV v0 u0 ∧ Vals rest us' := by
    cases r with
    | cons a b => exact ⟨_, _, rfl, a, b⟩
  have hn : H s.heap.objs.size = Option.none := e0.hok.fresh (Nat.le_refl _)
  have hl2 : us.length ≤ sizeLine := by rw [← r2.length]; exact hz
  refine run_bnd (ps := [p1, kn, pv]) lk hcd S hr e0 (G := fun xs H2 => ∃ p, H p = Option.none ∧ xs = [v0, u, V.ref p] ∧ H2 = upd H p (.tup rest)) (fun A' Ex Q' h => ?_) fun s2 H2 xs ⟨p, hp, ex, eH⟩ hr' => ?_
  · have new : ObjOk P w (upd H s.heap.objs.size (.tup rest)) (s.heap.push ({ cls := .type "tuple", data := .seq us.toArray } : Obj)) s.heap.objs.size (.tup rest) := ⟨hz, us, r2, ⟨_, Heap.get?_push_size _ rfl, rfl, _, rfl⟩⟩
    have un := un_laid (fs := frs outer) (s := s) (o := ({ cls := .type "tuple", data := .seq us.toArray } : Obj)) (u := .tup rest) hn
    have go : ∀ uv, RelV u uv → wpAny (model P w) A' (newTuple us >>= fun t => pure [(p1, u0), (kn, uv), (pv, t)]) Q' Ex s := fun uv ru => by
      refine wpAny_bind (wpAny_newTuple (wpAny_pure ?_) hl2)
      exact h _ _ [v0, u, V.ref s.heap.objs.size] [u0, uv, Value.ref s.heap.objs.size] (env0_laid e0 new) un rfl (fun e s' => hCX outer s H _ _ E e s' un (fun b o q => Heap.get?_push_of_some _ q) rfl) (.cons r1 (.cons ru (.cons rfl .nil))) rfl ⟨_, hn, rfl, rfl⟩
    rcases hkw with ⟨rfl, rfl⟩ | ⟨uv, rfl, ru⟩
    · obtain ⟨D, hD, hk⟩ := hb0
      have KX : K.In s.heap := e0.mod.kin.keeps fun b o e => (e0.bs b o e).1
      exact (hk u0 us).wp KX hD (go .none rfl)
    · rw [hb1 u0 us uv]
      exact go uv ru
  · subst ex eH
    exact hbody A outer s2 _ _ Q E hr' (hq p hp)
end
/-- what is asked of __init__ -/
def wSK (C : Addr) (sp : SpK) (E : XK) (vs : List V) (u : V) (H1 : Hp) (Q : VK) : Prop := ∀ x dx, H1 x = none → H1 dx = none → dx ≠ x → sp (V.ref x :: vs) u (upd (upd H1 dx (.own x)) x (.ins C dx [])) (fun v H2 => v = .non ∧ Q (.ref x) H2) E
def tSK (C : Addr) (sp : SpK) (E : XK) (t : TA) : TE := fun σ H Q => t σ H fun vs H1 => wSK C sp E vs .non H1 Q
def tSKK (C : Addr) (sp : SpK) (E : XK) (t tk : TA) : TE := fun σ H Q => t σ H fun vs H1 => tk σ H1 fun zs H2 => ∃ u, zs = [u] ∧ wSK C sp E vs u H2 Q
section
variable {X : Cx} {CX : CXT} {k : Nat} {C f : Addr} {kn : Str} {sp : SpK} {E : XK} {x : Str} {e : Expr} {es : List Expr} {kws : List Keyword} {t tk : TA} {p pos : Pos}
theorem run_sk {pins : List (Addr × Obj)} {σ : L2.St} {H : Hp} {s : Shared} {Q : VK} {us : List Value} {vs : List V} {kw : List (Str × Value)} {u : V} (M : Mk X.K C f) (F : FnSK X.prog X.w X.K X.mg X.base CX k f kn sp) (hr : Room (k + 1) X.A) (hx : Passes CX X E)
    (I : Inv X pins σ H s) (r : Vals vs us) (hk : (kw = [] ∧ u = .non) ∨ ∃ uv, kw = [(kn, uv)] ∧ RelV u uv) (h : wSK C sp E vs u H Q) : wpAny (model X.prog X.w) X.A (call (.ref C) us kw) (EP X pins σ Q) X.xe s := by
  have hq := h (s.heap.objs.size + 1) s.heap.objs.size (I.hok.fresh (Nat.le_succ _)) (I.hok.fresh (Nat.le_refl _)) (Nat.ne_of_lt (Nat.lt_succ_self _))
  have I2 := Inv.made (C := C) I
  have r2 : Vals (V.ref (s.heap.objs.size + 1) :: vs) (Value.ref (s.heap.objs.size + 1) :: us) := .cons rfl r
  refine wpAny_call (make_map (f := f) I.kIn M.makes M.init (beq_iff_eq.mp M.fn) (codeAny_mono (F _ X.stack _ _ (Value.ref (s.heap.objs.size + 1) :: us) _ kw u _ E (hr.make C us kw) (I2.env0.make C us kw) r2 hk hq) fun r s' hq' => ?_))
  cases r with
  | error e => exact hx pins σ _ _ e s' I2 hq'
  | ok fl =>
    cases fl with
    | ret u =>
      obtain ⟨v, H', I3, rv, ev, q3⟩ := I2.after hq'
      subst ev
      exact ⟨rv, ⟨V.ref (s.heap.objs.size + 1), H', I3, rfl, q3⟩⟩
    | next => exact False.elim hq'
    | brk => exact False.elim hq'
    | cont => exact False.elim hq'
/-- C(e, ..) -/
theorem pe_sk (M : Mk X.K C f) (F : FnSK X.prog X.w X.K X.mg X.base CX k f kn sp) (hr : Room (k + 1) X.A) (hg : Gl X x) (hm : X.mg x = some (.ref C)) (hx : Passes CX X E) (ha : PA X (e :: es) t) (hdb : (x == ("__debug__" : Str)) = false := by decide)
    (he : starEach (e :: es) X.env = (false, eval e X.env) :: starEach es X.env := by rfl) (hpl : (backTo pos (starEach es X.env)).any (·.1) = false := by rfl) : PE X (.Call (.Name x p) (e :: es) [] pos) (tSK C sp E t) := by
  refine ⟨fun pins s σ H Q I h => ?_⟩
  refine wpAny_Call_Name_kw (ld_glob I hg hm ?_ hdb)
  refine callWith_K (h₀ := X.base) I.ok.mod.kin M.kp (thn (ha.run pos pins s σ H _ I h) fun us s1 ⟨vs, H1, I1, r, q⟩ => ⟨I1.kIn, ?_⟩) he hpl
  exact run_sk M F hr hx I1 r (.inl ⟨rfl, rfl⟩) q
/-- C() -/
theorem pe_sk0 (M : Mk X.K C f) (F : FnSK X.prog X.w X.K X.mg X.base CX k f kn sp) (hr : Room (k + 1) X.A) (hg : Gl X x) (hm : X.mg x = some (.ref C)) (hx : Passes CX X E) (hdb : (x == ("__debug__" : Str)) = false := by decide) :
    PE X (.Call (.Name x p) [] [] pos) (tSK C sp E tNil) := by
  refine ⟨fun pins s σ H Q I h => ?_⟩
  refine wpAny_Call_Name_kw (ld_glob I hg hm ?_ hdb)
  exact callWith_K0 (first := []) I.kIn M.kp (run_sk (us := []) (vs := []) M F hr hx I .nil (.inl ⟨rfl, rfl⟩) h)
theorem kw_one {us : List Value} {zs : List V} {u : V} (r : Vals zs us) (e : zs = [u]) : ∃ uv, us = [uv] ∧ RelV u uv := by
  subst e
  cases r with
  | cons a b =>
    cases b
    exact ⟨_, rfl, a⟩
/-- C(e, .., k = v) -/
theorem pe_skK (M : Mk X.K C f) (F : FnSK X.prog X.w X.K X.mg X.base CX k f kn sp) (hr : Room (k + 1) X.A) (hg : Gl X x) (hm : X.mg x = some (.ref C)) (hx : Passes CX X E) (ha : PA X (e :: es) t) (hkw : PK X kws tk)
    (hall : (backToKw pos (keywordEach kws X.env)).all (·.1.isSome) = true := by rfl) (hks : (backToKw pos (keywordEach kws X.env)).filterMap (·.1) = [kn] := by rfl) (hdb : (x == ("__debug__" : Str)) = false := by decide)
    (he : starEach (e :: es) X.env = (false, eval e X.env) :: starEach es X.env := by rfl) (hpl : ((backTo pos (starEach (e :: es) X.env)).any (·.1) || (backToKw pos (keywordEach kws X.env)).any (·.1.isNone)) = false := by rfl) :
    PE X (.Call (.Name x p) (e :: es) kws pos) (tSKK C sp E t tk) := by
  refine ⟨fun pins s σ H Q I h => ?_⟩
  refine wpAny_Call_Name_kw (ld_glob I hg hm ?_ hdb)
  refine callWith_KW (h₀ := X.base) I.ok.mod.kin M.kp hall (thn (ha.run pos pins s σ H _ I h) fun us s1 ⟨vs, H1, I1, r, q⟩ => ?_) hpl he
  refine thn (hkw.run pos pins s1 σ H1 _ I1 q) fun ws s2 ⟨zs, H2, I2, rz, u, ez, q2⟩ => ⟨I2.kIn, ?_⟩
  obtain ⟨uv, rfl, ru⟩ := kw_one rz ez
  rw [hks]
  exact run_sk M F hr hx I2 r (.inr ⟨uv, rfl, ru⟩) q2
/-- C(k = v) -/
theorem pe_skK0 (M : Mk X.K C f) (F : FnSK X.prog X.w X.K X.mg X.base CX k f kn sp) (hr : Room (k + 1) X.A) (hg : Gl X x) (hm : X.mg x = some (.ref C)) (hx : Passes CX X E) (hkw : PK X kws tk)
    (hall : (backToKw pos (keywordEach kws X.env)).all (·.1.isSome) = true := by rfl) (hks : (backToKw pos (keywordEach kws X.env)).filterMap (·.1) = [kn] := by rfl) (hdb : (x == ("__debug__" : Str)) = false := by decide)
    (hpl : ((backTo pos (starEach [] X.env)).any (·.1) || (backToKw pos (keywordEach kws X.env)).any (·.1.isNone)) = false := by rfl) :
    PE X (.Call (.Name x p) [] kws pos) (tSKK C sp E tNil tk) := by
  refine ⟨fun pins s σ H Q I h => ?_⟩
  refine wpAny_Call_Name_kw (ld_glob I hg hm ?_ hdb)
  refine callWith_KW0 (h₀ := X.base) I.ok.mod.kin M.kp hall ?_ hpl
  refine thn (hkw.run pos pins s σ H _ I h) fun ws s2 ⟨zs, H2, I2, rz, u, ez, q2⟩ => ⟨I2.kIn, ?_⟩
  obtain ⟨uv, rfl, ru⟩ := kw_one rz ez
  rw [hks]
  exact run_sk (us := []) (vs := []) M F hr hx I2 .nil (.inr ⟨uv, rfl, ru⟩) q2
end
end Sk
set_option Elab.async false
set_option linter.all false
set_option maxRecDepth 100000
set_option maxHeartbeats 1000000
/-! The __init__s of the deeds' classes. -/
namespace K9
open PySem PySem.Spec PyProof.Rows L2 RV EV He EF EI LamX
/-- one check behind another -/
def thenE (a b : Option Err) : Option Err := match a with
  | none => b
  | some e => some e
def Om (K : PySem.W.Frag) (H : Hp) (p C dx : Addr) (o : Option Err) (fs : List (Str × V)) (Q : VK) (E : XK) : Prop := match o with
  | none => ∀ H', Same2 H H' p → H' p = some (.ins C dx fs) → Q .non H'
  | some e => ∀ H', Same2 H H' p → Bad1 (ga K e.1) e.2.1 H' E e.2.2
section
variable {K : PySem.W.Frag} {H H1 : Hp} {p C dx : Addr} {o1 o2 : Option Err} {fs : List (Str × V)} {Q : VK} {E : XK} {R : Hp → Prop}
theorem om_step (c : Om K H p C dx (thenE o1 o2) fs Q E) (s : Same2 H H1 p) (k : o1 = none → Om K H p C dx o2 fs Q E → ∀ H2, Same H1 H2 → R H2) : Oc K H1 o1 R E := by
  cases o1 with
  | none => exact fun H2 s2 => k rfl c H2 s2
  | some e => exact fun H2 s2 => c H2 (s.trans (Same.two s2 p))
theorem om_last (c : Om K H p C dx o1 fs Q E) (s : Same2 H H1 p) (k : o1 = none → (∀ H', Same2 H H' p → H' p = some (.ins C dx fs) → Q .non H') → ∀ H2, Same H1 H2 → R H2) : Oc K H1 o1 R E := by
  cases o1 with
  | none => exact fun H2 s2 => k rfl c H2 s2
  | some e => exact fun H2 s2 => c H2 (s.trans (Same.two s2 p))
end
def ckUp (u : V) : Option Err := if u = .non then none else ckFix u
def oc1 (ck : V → Option Err) : List V → Option Err
  | [v] => ck v
  | _ => none
def oc2 (ck : V → V → Option Err) : List V → Option Err
  | [v, u] => ck v u
  | _ => none
def spMk (K : PySem.W.Frag) (C : Addr) (n : Nat) (oc : List V → Option Err) (fl : List V → List (Str × V)) : Sp := fun vs H Q E => ∃ p dx as, vs = .ref p :: as ∧ as.length = n ∧ H p = some (.ins C dx []) ∧ AllOdd H as ∧ Om K H p C dx (oc as) (fl as) Q E
/-- the same with a star and a stop -/
def spMkS (K : PySem.W.Frag) (C : Addr) (oc : V → List V → Option Err) (f g : Str) : Sp := fun vs H Q E => ∃ p dx u a xs, vs = [.ref p, u, .ref a] ∧ H p = some (.ins C dx []) ∧ H a = some (.tup xs) ∧ (∃ d, Odd H u d) ∧ AllOdd H xs ∧ Om K H p C dx (oc u xs) [(f, .ref a), (g, u)] Q E
def ocLines (u : V) (xs : List V) : Option Err := thenE (ckRise "NoLine" "line" 6 xs) (ckStop "NoLine" "line" (xs.map intV) u)
def ocDays (u : V) (xs : List V) : Option Err := thenE (ckRise "NoDay" "day" 200 xs) (ckStop "NoDay" "day" (xs.map intV) u)
theorem ck_line {lo : Int} {v : V} (h : ckLine lo v = none) : v = .int (intV v) := by
  unfold ckLine at h
  cases e : inB v lo 6 with
  | true => exact in_int e
  | false => rw [e] at h; cases h
section
variable {P : Program} {w : World} {K : PySem.W.Frag} {mg : Str → Option Value} {base : Heap}
theorem scI_Fix : FnScope ["self", "fix"] ["self", "fix"] (defScope (iSt 43)) := ⟨rfl, rfl, rfl, by decide +kernel, rfl, by decide +kernel, by decide +kernel⟩
theorem ok_Fix (T : KF P w K mg base) {fd : FuncData} (F : IniD K ("Fix", 43) fd) : FnOk P w K mg base (L2.CX P w) 5 (ma K (ga K "Fix") "__init__") fd ["self", "fix"] (spMk K (ga K "Fix") 1 (oc1 fun v => (ckFix v)) (fun as => match as with | [v] => [("fix", v)] | _ => [])) := by
  obtain ⟨fF, GF, bF, kF, gF⟩ := c_ckfix (w := w) T
  obtain ⟨_, clC, _⟩ := T.gk ("Fix", 43) (by decide)
  refine (FunD.ok (k := 4) F scI_Fix (fun vs H Q E h => ?_) (fun cdv A outer s H vs Q E hr h => ?_))
  · obtain ⟨p, dx, as, rfl, hl, _⟩ := h
    show as.length + 1 = 2
    rw [hl]
  · obtain ⟨p, dx, as, rfl, hl, hp, ao, c⟩ := h
    obtain ⟨v, rfl⟩ : ∃ v, as = [v] := by
      match as, hl with
      | [v], _ => exact ⟨_, rfl⟩
    obtain ⟨dv, ov⟩ := ao v (by simp)
    refine ⟨_, pss_one (ps_fld (pv 0) (pe_call (E := E) GF (hr.mono (by decide)) (by rfl) gF kF bF .nil (passes_call (takes_of rfl rfl rfl rfl) fun _ _ _ _ h => h) (pa_cons (pv 1) pa_nil)) rfl), ?_⟩
    have c : Om K H p (ga K "Fix") dx (ckFix v) [("fix", v)] Q E := c
    refine ⟨_, rfl, ?_⟩
    try unfold tNil
    show spCk K ckFix [v] _ _ _
    refine ⟨v, dv, rfl, ov, om_last c (fun _ _ _ e => e) fun ev c H12 s12 => ?_⟩
    refine ⟨_, rfl, p, _, dx, _, rfl, s12 _ _ hp, clC, T.no ("Fix", "fix") (by decide), by show 0 < 1000; decide, ?_⟩
    exact c _ (Same2.trans (Same.two s12 p) two_upd) upd_same
theorem scI_Unfix : FnScope ["self", "fix"] ["self", "fix"] (defScope (iSt 44)) := ⟨rfl, rfl, rfl, by decide +kernel, rfl, by decide +kernel, by decide +kernel⟩
theorem ok_Unfix (T : KF P w K mg base) {fd : FuncData} (F : IniD K ("Unfix", 44) fd) : FnOk P w K mg base (L2.CX P w) 5 (ma K (ga K "Unfix") "__init__") fd ["self", "fix"] (spMk K (ga K "Unfix") 1 (oc1 fun v => (ckFix v)) (fun as => match as with | [v] => [("fix", v)] | _ => [])) := by
  obtain ⟨fF, GF, bF, kF, gF⟩ := c_ckfix (w := w) T
  obtain ⟨_, clC, _⟩ := T.gk ("Unfix", 44) (by decide)
  refine (FunD.ok (k := 4) F scI_Unfix (fun vs H Q E h => ?_) (fun cdv A outer s H vs Q E hr h => ?_))
  · obtain ⟨p, dx, as, rfl, hl, _⟩ := h
    show as.length + 1 = 2
    rw [hl]
  · obtain ⟨p, dx, as, rfl, hl, hp, ao, c⟩ := h
    obtain ⟨v, rfl⟩ : ∃ v, as = [v] := by
      match as, hl with
      | [v], _ => exact ⟨_, rfl⟩
    obtain ⟨dv, ov⟩ := ao v (by simp)
    refine ⟨_, pss_one (ps_fld (pv 0) (pe_call (E := E) GF (hr.mono (by decide)) (by rfl) gF kF bF .nil (passes_call (takes_of rfl rfl rfl rfl) fun _ _ _ _ h => h) (pa_cons (pv 1) pa_nil)) rfl), ?_⟩
    have c : Om K H p (ga K "Unfix") dx (ckFix v) [("fix", v)] Q E := c
    refine ⟨_, rfl, ?_⟩
    try unfold tNil
    show spCk K ckFix [v] _ _ _
    refine ⟨v, dv, rfl, ov, om_last c (fun _ _ _ e => e) fun ev c H12 s12 => ?_⟩
    refine ⟨_, rfl, p, _, dx, _, rfl, s12 _ _ hp, clC, T.no ("Unfix", "fix") (by decide), by show 0 < 1000; decide, ?_⟩
    exact c _ (Same2.trans (Same.two s12 p) two_upd) upd_same
theorem scI_Carry : FnScope ["self", "fix", "line"] ["self", "fix", "line"] (defScope (iSt 46)) := ⟨rfl, rfl, rfl, by decide +kernel, rfl, by decide +kernel, by decide +kernel⟩
theorem ok_Carry (T : KF P w K mg base) {fd : FuncData} (F : IniD K ("Carry", 46) fd) : FnOk P w K mg base (L2.CX P w) 5 (ma K (ga K "Carry") "__init__") fd ["self", "fix", "line"] (spMk K (ga K "Carry") 2 (oc2 fun v u => (thenE (ckFix v) (ckLine 1 u))) (fun as => match as with | [v, u] => [("fix", v), ("line", u)] | _ => [])) := by
  obtain ⟨fF, GF, bF, kF, gF⟩ := c_ckfix (w := w) T
  obtain ⟨fL, GL, bL, ⟨dL, rL, bL1⟩, kL, gL⟩ := c_ckl (w := w) T
  obtain ⟨_, clC, _⟩ := T.gk ("Carry", 46) (by decide)
  refine (FunD.ok (k := 4) F scI_Carry (fun vs H Q E h => ?_) (fun cdv A outer s H vs Q E hr h => ?_))
  · obtain ⟨p, dx, as, rfl, hl, _⟩ := h
    show as.length + 1 = 3
    rw [hl]
  · obtain ⟨p, dx, as, rfl, hl, hp, ao, c⟩ := h
    obtain ⟨v, u, rfl⟩ : ∃ v u, as = [v, u] := by
      match as, hl with
      | [v, u], _ => exact ⟨_, _, rfl⟩
    obtain ⟨dv, ov⟩ := ao v (by simp)
    obtain ⟨du, ou⟩ := ao u (by simp)
    refine ⟨_, pss_cons (ps_fld (pv 0) (pe_call (E := E) GF (hr.mono (by decide)) (by rfl) gF kF bF .nil (passes_call (takes_of rfl rfl rfl rfl) fun _ _ _ _ h => h) (pa_cons (pv 1) pa_nil)) rfl)
      (pss_one (ps_fld (pv 0) (pe_call (E := E) GL (hr.mono (by decide)) (by rfl) gL kL bL1 rL (passes_call (takes_of rfl rfl rfl rfl) fun _ _ _ _ h => h) (pa_cons (pv 2) pa_nil)) rfl)), ?_⟩
    have c : Om K H p (ga K "Carry") dx (thenE (ckFix v) (ckLine 1 u)) [("fix", v), ("line", u)] Q E := c
    refine ⟨_, rfl, ?_⟩
    try unfold tNil
    show spCk K ckFix [v] _ _ _
    refine ⟨v, dv, rfl, ov, om_step c (fun _ _ _ e => e) fun ev c H12 s12 => ?_⟩
    refine ⟨_, rfl, p, _, dx, _, rfl, s12 _ _ hp, clC, T.no ("Carry", "fix") (by decide), by show 0 < 1000; decide, ?_⟩
    have q1 : Same2 H (upd H12 p (.ins (ga K "Carry") dx [("fix", v)])) p := Same2.trans (Same.two s12 p) two_upd
    refine ⟨_, rfl, ?_⟩
    try unfold tNil
    show spCk2 K ckLine [u, .int 1] _ _ _
    refine ⟨u, du, 1, rfl, (ou.ins hp q1), om_last c q1 fun eu c H22 s22 => ?_⟩
    refine ⟨_, rfl, p, _, dx, _, rfl, s22 _ _ upd_same, clC, T.no ("Carry", "line") (by decide), by show 1 < 1000; decide, ?_⟩
    exact c _ (q1.trans (Same2.trans (Same.two s22 p) two_upd)) upd_same
theorem scI_Drop : FnScope ["self", "fix", "line"] ["self", "fix", "line"] (defScope (iSt 47)) := ⟨rfl, rfl, rfl, by decide +kernel, rfl, by decide +kernel, by decide +kernel⟩
theorem ok_Drop (T : KF P w K mg base) {fd : FuncData} (F : IniD K ("Drop", 47) fd) : FnOk P w K mg base (L2.CX P w) 5 (ma K (ga K "Drop") "__init__") fd ["self", "fix", "line"] (spMk K (ga K "Drop") 2 (oc2 fun v u => (thenE (ckFix v) (ckLine 1 u))) (fun as => match as with | [v, u] => [("fix", v), ("line", u)] | _ => [])) := by
  obtain ⟨fF, GF, bF, kF, gF⟩ := c_ckfix (w := w) T
  obtain ⟨fL, GL, bL, ⟨dL, rL, bL1⟩, kL, gL⟩ := c_ckl (w := w) T
  obtain ⟨_, clC, _⟩ := T.gk ("Drop", 47) (by decide)
  refine (FunD.ok (k := 4) F scI_Drop (fun vs H Q E h => ?_) (fun cdv A outer s H vs Q E hr h => ?_))
  · obtain ⟨p, dx, as, rfl, hl, _⟩ := h
    show as.length + 1 = 3
    rw [hl]
  · obtain ⟨p, dx, as, rfl, hl, hp, ao, c⟩ := h
    obtain ⟨v, u, rfl⟩ : ∃ v u, as = [v, u] := by
      match as, hl with
      | [v, u], _ => exact ⟨_, _, rfl⟩
    obtain ⟨dv, ov⟩ := ao v (by simp)
    obtain ⟨du, ou⟩ := ao u (by simp)
    refine ⟨_, pss_cons (ps_fld (pv 0) (pe_call (E := E) GF (hr.mono (by decide)) (by rfl) gF kF bF .nil (passes_call (takes_of rfl rfl rfl rfl) fun _ _ _ _ h => h) (pa_cons (pv 1) pa_nil)) rfl)
      (pss_one (ps_fld (pv 0) (pe_call (E := E) GL (hr.mono (by decide)) (by rfl) gL kL bL1 rL (passes_call (takes_of rfl rfl rfl rfl) fun _ _ _ _ h => h) (pa_cons (pv 2) pa_nil)) rfl)), ?_⟩
    have c : Om K H p (ga K "Drop") dx (thenE (ckFix v) (ckLine 1 u)) [("fix", v), ("line", u)] Q E := c
    refine ⟨_, rfl, ?_⟩
    try unfold tNil
    show spCk K ckFix [v] _ _ _
    refine ⟨v, dv, rfl, ov, om_step c (fun _ _ _ e => e) fun ev c H12 s12 => ?_⟩
    refine ⟨_, rfl, p, _, dx, _, rfl, s12 _ _ hp, clC, T.no ("Drop", "fix") (by decide), by show 0 < 1000; decide, ?_⟩
    have q1 : Same2 H (upd H12 p (.ins (ga K "Drop") dx [("fix", v)])) p := Same2.trans (Same.two s12 p) two_upd
    refine ⟨_, rfl, ?_⟩
    try unfold tNil
    show spCk2 K ckLine [u, .int 1] _ _ _
    refine ⟨u, du, 1, rfl, (ou.ins hp q1), om_last c q1 fun eu c H22 s22 => ?_⟩
    refine ⟨_, rfl, p, _, dx, _, rfl, s22 _ _ upd_same, clC, T.no ("Drop", "line") (by decide), by show 1 < 1000; decide, ?_⟩
    exact c _ (q1.trans (Same2.trans (Same.two s22 p) two_upd)) upd_same
theorem scI_Merge : FnScope ["self", "line", "upto"] ["self", "line", "upto"] (defScope (iSt 48)) := ⟨rfl, rfl, rfl, by decide +kernel, rfl, by decide +kernel, by decide +kernel⟩
theorem ok_Merge (T : KF P w K mg base) {fd : FuncData} (F : IniD K ("Merge", 48) fd) : FnOk P w K mg base (L2.CX P w) 5 (ma K (ga K "Merge") "__init__") fd ["self", "line", "upto"] (spMk K (ga K "Merge") 2 (oc2 fun v u => (thenE (ckLine 1 v) (ckUp u))) (fun as => match as with | [v, u] => [("line", v), ("upto", u)] | _ => [])) := by
  obtain ⟨fF, GF, bF, kF, gF⟩ := c_ckfix (w := w) T
  obtain ⟨fL, GL, bL, ⟨dL, rL, bL1⟩, kL, gL⟩ := c_ckl (w := w) T
  obtain ⟨_, clC, _⟩ := T.gk ("Merge", 48) (by decide)
  refine (FunD.ok (k := 4) F scI_Merge (fun vs H Q E h => ?_) (fun cdv A outer s H vs Q E hr h => ?_))
  · obtain ⟨p, dx, as, rfl, hl, _⟩ := h
    show as.length + 1 = 3
    rw [hl]
  · obtain ⟨p, dx, as, rfl, hl, hp, ao, c⟩ := h
    obtain ⟨v, u, rfl⟩ : ∃ v u, as = [v, u] := by
      match as, hl with
      | [v, u], _ => exact ⟨_, _, rfl⟩
    obtain ⟨dv, ov⟩ := ao v (by simp)
    obtain ⟨du, ou⟩ := ao u (by simp)
    refine ⟨_, pss_cons (ps_fld (pv 0) (pe_call (E := E) GL (hr.mono (by decide)) (by rfl) gL kL bL1 rL (passes_call (takes_of rfl rfl rfl rfl) fun _ _ _ _ h => h) (pa_cons (pv 1) pa_nil)) rfl)
      (pss_one (ps_fld (pv 0) (pe_ifExp (pt_cmp (pc_isN (pv 2))) pe_non (pe_call (E := E) GF (hr.mono (by decide)) (by rfl) gF kF bF .nil (passes_call (takes_of rfl rfl rfl rfl) fun _ _ _ _ h => h) (pa_cons (pv 2) pa_nil))) rfl)), ?_⟩
    have c : Om K H p (ga K "Merge") dx (thenE (ckLine 1 v) (ckUp u)) [("line", v), ("upto", u)] Q E := c
    refine ⟨_, rfl, ?_⟩
    try unfold tNil
    show spCk2 K ckLine [v, .int 1] _ _ _
    refine ⟨v, dv, 1, rfl, ov, om_step c (fun _ _ _ e => e) fun ev c H12 s12 => ?_⟩
    refine ⟨_, rfl, p, _, dx, _, rfl, s12 _ _ hp, clC, T.no ("Merge", "line") (by decide), by show 0 < 1000; decide, ?_⟩
    have q1 : Same2 H (upd H12 p (.ins (ga K "Merge") dx [("line", v)])) p := Same2.trans (Same.two s12 p) two_upd
    refine ⟨_, rfl, _, rfl, ?_⟩
    by_cases eu : u = .non
    · refine if_posB (decide_eq_true eu) ?_
      unfold ckUp at c
      rw [if_pos eu] at c
      refine ⟨_, rfl, p, _, dx, _, rfl, upd_same, clC, T.no ("Merge", "upto") (by decide), by show 1 < 1000; decide, ?_⟩
      exact c _ (q1.trans two_upd) (by rw [upd_same, eu]; rfl)
    · refine if_negB (decide_eq_false eu) ?_
      unfold ckUp at c
      rw [if_neg eu] at c
      refine ⟨_, rfl, ?_⟩
      try unfold tNil
      show spCk K ckFix [u] _ _ _
      refine ⟨u, du, rfl, ou.ins hp q1, om_last c q1 fun eu c H22 s22 => ?_⟩
      refine ⟨_, rfl, p, _, dx, _, rfl, s22 _ _ upd_same, clC, T.no ("Merge", "upto") (by decide), by show 1 < 1000; decide, ?_⟩
      exact c _ (q1.trans (Same2.trans (Same.two s22 p) two_upd)) upd_same
theorem scI_End : FnScope ["self", "line"] ["self", "line"] (defScope (iSt 49)) := ⟨rfl, rfl, rfl, by decide +kernel, rfl, by decide +kernel, by decide +kernel⟩
theorem ok_End (T : KF P w K mg base) {fd : FuncData} (F : IniD K ("End", 49) fd) : FnOk P w K mg base (L2.CX P w) 5 (ma K (ga K "End") "__init__") fd ["self", "line"] (spMk K (ga K "End") 1 (oc1 fun v => (ckLine 1 v)) (fun as => match as with | [v] => [("line", v)] | _ => [])) := by
  obtain ⟨fL, GL, bL, ⟨dL, rL, bL1⟩, kL, gL⟩ := c_ckl (w := w) T
  obtain ⟨_, clC, _⟩ := T.gk ("End", 49) (by decide)
  refine (FunD.ok (k := 4) F scI_End (fun vs H Q E h => ?_) (fun cdv A outer s H vs Q E hr h => ?_))
  · obtain ⟨p, dx, as, rfl, hl, _⟩ := h
    show as.length + 1 = 2
    rw [hl]
  · obtain ⟨p, dx, as, rfl, hl, hp, ao, c⟩ := h
    obtain ⟨v, rfl⟩ : ∃ v, as = [v] := by
      match as, hl with
      | [v], _ => exact ⟨_, rfl⟩
    obtain ⟨dv, ov⟩ := ao v (by simp)
    refine ⟨_, pss_one (ps_fld (pv 0) (pe_call (E := E) GL (hr.mono (by decide)) (by rfl) gL kL bL1 rL (passes_call (takes_of rfl rfl rfl rfl) fun _ _ _ _ h => h) (pa_cons (pv 1) pa_nil)) rfl), ?_⟩
    have c : Om K H p (ga K "End") dx (ckLine 1 v) [("line", v)] Q E := c
    refine ⟨_, rfl, ?_⟩
    try unfold tNil
    show spCk2 K ckLine [v, .int 1] _ _ _
    refine ⟨v, dv, 1, rfl, ov, om_last c (fun _ _ _ e => e) fun ev c H12 s12 => ?_⟩
    refine ⟨_, rfl, p, _, dx, _, rfl, s12 _ _ hp, clC, T.no ("End", "line") (by decide), by show 0 < 1000; decide, ?_⟩
    exact c _ (Same2.trans (Same.two s12 p) two_upd) upd_same
theorem scI_Offer : FnScope ["self", "line"] ["self", "line"] (defScope (iSt 50)) := ⟨rfl, rfl, rfl, by decide +kernel, rfl, by decide +kernel, by decide +kernel⟩
theorem ok_Offer (T : KF P w K mg base) {fd : FuncData} (F : IniD K ("Offer", 50) fd) : FnOk P w K mg base (L2.CX P w) 5 (ma K (ga K "Offer") "__init__") fd ["self", "line"] (spMk K (ga K "Offer") 1 (oc1 fun v => (ckLine 1 v)) (fun as => match as with | [v] => [("line", v)] | _ => [])) := by
  obtain ⟨fL, GL, bL, ⟨dL, rL, bL1⟩, kL, gL⟩ := c_ckl (w := w) T
  obtain ⟨_, clC, _⟩ := T.gk ("Offer", 50) (by decide)
  refine (FunD.ok (k := 4) F scI_Offer (fun vs H Q E h => ?_) (fun cdv A outer s H vs Q E hr h => ?_))
  · obtain ⟨p, dx, as, rfl, hl, _⟩ := h
    show as.length + 1 = 2
    rw [hl]
  · obtain ⟨p, dx, as, rfl, hl, hp, ao, c⟩ := h
    obtain ⟨v, rfl⟩ : ∃ v, as = [v] := by
      match as, hl with
      | [v], _ => exact ⟨_, rfl⟩
    obtain ⟨dv, ov⟩ := ao v (by simp)
    refine ⟨_, pss_one (ps_fld (pv 0) (pe_call (E := E) GL (hr.mono (by decide)) (by rfl) gL kL bL1 rL (passes_call (takes_of rfl rfl rfl rfl) fun _ _ _ _ h => h) (pa_cons (pv 1) pa_nil)) rfl), ?_⟩
    have c : Om K H p (ga K "Offer") dx (ckLine 1 v) [("line", v)] Q E := c
    refine ⟨_, rfl, ?_⟩
    try unfold tNil
    show spCk2 K ckLine [v, .int 1] _ _ _
    refine ⟨v, dv, 1, rfl, ov, om_last c (fun _ _ _ e => e) fun ev c H12 s12 => ?_⟩
    refine ⟨_, rfl, p, _, dx, _, rfl, s12 _ _ hp, clC, T.no ("Offer", "line") (by decide), by show 0 < 1000; decide, ?_⟩
    exact c _ (Same2.trans (Same.two s12 p) two_upd) upd_same
theorem scI_Live : FnScope ["self", "line"] ["self", "line"] (defScope (iSt 51)) := ⟨rfl, rfl, rfl, by decide +kernel, rfl, by decide +kernel, by decide +kernel⟩
theorem ok_Live (T : KF P w K mg base) {fd : FuncData} (F : IniD K ("Live", 51) fd) : FnOk P w K mg base (L2.CX P w) 5 (ma K (ga K "Live") "__init__") fd ["self", "line"] (spMk K (ga K "Live") 1 (oc1 fun v => (ckLine 1 v)) (fun as => match as with | [v] => [("line", v)] | _ => [])) := by
  obtain ⟨fL, GL, bL, ⟨dL, rL, bL1⟩, kL, gL⟩ := c_ckl (w := w) T
  obtain ⟨_, clC, _⟩ := T.gk ("Live", 51) (by decide)
  refine (FunD.ok (k := 4) F scI_Live (fun vs H Q E h => ?_) (fun cdv A outer s H vs Q E hr h => ?_))
  · obtain ⟨p, dx, as, rfl, hl, _⟩ := h
    show as.length + 1 = 2
    rw [hl]
  · obtain ⟨p, dx, as, rfl, hl, hp, ao, c⟩ := h
    obtain ⟨v, rfl⟩ : ∃ v, as = [v] := by
      match as, hl with
      | [v], _ => exact ⟨_, rfl⟩
    obtain ⟨dv, ov⟩ := ao v (by simp)
    refine ⟨_, pss_one (ps_fld (pv 0) (pe_call (E := E) GL (hr.mono (by decide)) (by rfl) gL kL bL1 rL (passes_call (takes_of rfl rfl rfl rfl) fun _ _ _ _ h => h) (pa_cons (pv 1) pa_nil)) rfl), ?_⟩
    have c : Om K H p (ga K "Live") dx (ckLine 1 v) [("line", v)] Q E := c
    refine ⟨_, rfl, ?_⟩
    try unfold tNil
    show spCk2 K ckLine [v, .int 1] _ _ _
    refine ⟨v, dv, 1, rfl, ov, om_last c (fun _ _ _ e => e) fun ev c H12 s12 => ?_⟩
    refine ⟨_, rfl, p, _, dx, _, rfl, s12 _ _ hp, clC, T.no ("Live", "line") (by decide), by show 0 < 1000; decide, ?_⟩
    exact c _ (Same2.trans (Same.two s12 p) two_upd) upd_same
theorem scI_Down : FnScope ["self", "line"] ["self", "line"] (defScope (iSt 52)) := ⟨rfl, rfl, rfl, by decide +kernel, rfl, by decide +kernel, by decide +kernel⟩
theorem ok_Down (T : KF P w K mg base) {fd : FuncData} (F : IniD K ("Down", 52) fd) : FnOk P w K mg base (L2.CX P w) 5 (ma K (ga K "Down") "__init__") fd ["self", "line"] (spMk K (ga K "Down") 1 (oc1 fun v => (ckLine 1 v)) (fun as => match as with | [v] => [("line", v)] | _ => [])) := by
  obtain ⟨fL, GL, bL, ⟨dL, rL, bL1⟩, kL, gL⟩ := c_ckl (w := w) T
  obtain ⟨_, clC, _⟩ := T.gk ("Down", 52) (by decide)
  refine (FunD.ok (k := 4) F scI_Down (fun vs H Q E h => ?_) (fun cdv A outer s H vs Q E hr h => ?_))
  · obtain ⟨p, dx, as, rfl, hl, _⟩ := h
    show as.length + 1 = 2
    rw [hl]
  · obtain ⟨p, dx, as, rfl, hl, hp, ao, c⟩ := h
    obtain ⟨v, rfl⟩ : ∃ v, as = [v] := by
      match as, hl with
      | [v], _ => exact ⟨_, rfl⟩
    obtain ⟨dv, ov⟩ := ao v (by simp)
    refine ⟨_, pss_one (ps_fld (pv 0) (pe_call (E := E) GL (hr.mono (by decide)) (by rfl) gL kL bL1 rL (passes_call (takes_of rfl rfl rfl rfl) fun _ _ _ _ h => h) (pa_cons (pv 1) pa_nil)) rfl), ?_⟩
    have c : Om K H p (ga K "Down") dx (ckLine 1 v) [("line", v)] Q E := c
    refine ⟨_, rfl, ?_⟩
    try unfold tNil
    show spCk2 K ckLine [v, .int 1] _ _ _
    refine ⟨v, dv, 1, rfl, ov, om_last c (fun _ _ _ e => e) fun ev c H12 s12 => ?_⟩
    refine ⟨_, rfl, p, _, dx, _, rfl, s12 _ _ hp, clC, T.no ("Down", "line") (by decide), by show 0 < 1000; decide, ?_⟩
    exact c _ (Same2.trans (Same.two s12 p) two_upd) upd_same
theorem scI_Day : FnScope ["self", "line"] ["self", "line"] (defScope (iSt 53)) := ⟨rfl, rfl, rfl, by decide +kernel, rfl, by decide +kernel, by decide +kernel⟩
theorem ok_Day (T : KF P w K mg base) {fd : FuncData} (F : IniD K ("Day", 53) fd) : FnOk P w K mg base (L2.CX P w) 5 (ma K (ga K "Day") "__init__") fd ["self", "line"] (spMk K (ga K "Day") 1 (oc1 fun v => (ckLine 1 v)) (fun as => match as with | [v] => [("line", v)] | _ => [])) := by
  obtain ⟨fL, GL, bL, ⟨dL, rL, bL1⟩, kL, gL⟩ := c_ckl (w := w) T
  obtain ⟨_, clC, _⟩ := T.gk ("Day", 53) (by decide)
  refine (FunD.ok (k := 4) F scI_Day (fun vs H Q E h => ?_) (fun cdv A outer s H vs Q E hr h => ?_))
  · obtain ⟨p, dx, as, rfl, hl, _⟩ := h
    show as.length + 1 = 2
    rw [hl]
  · obtain ⟨p, dx, as, rfl, hl, hp, ao, c⟩ := h
    obtain ⟨v, rfl⟩ : ∃ v, as = [v] := by
      match as, hl with
      | [v], _ => exact ⟨_, rfl⟩
    obtain ⟨dv, ov⟩ := ao v (by simp)
    refine ⟨_, pss_one (ps_fld (pv 0) (pe_call (E := E) GL (hr.mono (by decide)) (by rfl) gL kL bL1 rL (passes_call (takes_of rfl rfl rfl rfl) fun _ _ _ _ h => h) (pa_cons (pv 1) pa_nil)) rfl), ?_⟩
    have c : Om K H p (ga K "Day") dx (ckLine 1 v) [("line", v)] Q E := c
    refine ⟨_, rfl, ?_⟩
    try unfold tNil
    show spCk2 K ckLine [v, .int 1] _ _ _
    refine ⟨v, dv, 1, rfl, ov, om_last c (fun _ _ _ e => e) fun ev c H12 s12 => ?_⟩
    refine ⟨_, rfl, p, _, dx, _, rfl, s12 _ _ hp, clC, T.no ("Day", "line") (by decide), by show 0 < 1000; decide, ?_⟩
    exact c _ (Same2.trans (Same.two s12 p) two_upd) upd_same
theorem scI_Try : FnScope ["self", "line", "mate"] ["self", "line", "mate"] (defScope (iSt 54)) := ⟨rfl, rfl, rfl, by decide +kernel, rfl, by decide +kernel, by decide +kernel⟩
theorem ok_Try (T : KF P w K mg base) {fd : FuncData} (F : IniD K ("Try", 54) fd) : FnOk P w K mg base (L2.CX P w) 5 (ma K (ga K "Try") "__init__") fd ["self", "line", "mate"] (spMk K (ga K "Try") 2 (oc2 fun v u => (thenE (ckLine 1 v) (ckLine (intV v + 1) u))) (fun as => match as with | [v, u] => [("line", v), ("mate", u)] | _ => [])) := by
  obtain ⟨fL, GL, bL, ⟨dL, rL, bL1⟩, kL, gL⟩ := c_ckl (w := w) T
  obtain ⟨_, clC, _⟩ := T.gk ("Try", 54) (by decide)
  refine (FunD.ok (k := 4) F scI_Try (fun vs H Q E h => ?_) (fun cdv A outer s H vs Q E hr h => ?_))
  · obtain ⟨p, dx, as, rfl, hl, _⟩ := h
    show as.length + 1 = 3
    rw [hl]
  · obtain ⟨p, dx, as, rfl, hl, hp, ao, c⟩ := h
    obtain ⟨v, u, rfl⟩ : ∃ v u, as = [v, u] := by
      match as, hl with
      | [v, u], _ => exact ⟨_, _, rfl⟩
    obtain ⟨dv, ov⟩ := ao v (by simp)
    obtain ⟨du, ou⟩ := ao u (by simp)
    refine ⟨_, pss_cons (ps_fld (pv 0) (pe_call (E := E) GL (hr.mono (by decide)) (by rfl) gL kL bL1 rL (passes_call (takes_of rfl rfl rfl rfl) fun _ _ _ _ h => h) (pa_cons (pv 1) pa_nil)) rfl)
      (pss_one (ps_fld (pv 0) (pe_call (E := E) GL (hr.mono (by decide)) (by rfl) gL kL bL .nil (passes_call (takes_of rfl rfl rfl rfl) fun _ _ _ _ h => h) (pa_cons (pv 2) (pa_cons (pe_op op_add (pv 1) pe_int) pa_nil))) rfl)), ?_⟩
    have c : Om K H p (ga K "Try") dx (thenE (ckLine 1 v) (ckLine (intV v + 1) u)) [("line", v), ("mate", u)] Q E := c
    refine ⟨_, rfl, ?_⟩
    try unfold tNil
    show spCk2 K ckLine [v, .int 1] _ _ _
    refine ⟨v, dv, 1, rfl, ov, om_step c (fun _ _ _ e => e) fun ev c H12 s12 => ?_⟩
    refine ⟨_, rfl, p, _, dx, _, rfl, s12 _ _ hp, clC, T.no ("Try", "line") (by decide), by show 0 < 1000; decide, ?_⟩
    have q1 : Same2 H (upd H12 p (.ins (ga K "Try") dx [("line", v)])) p := Same2.trans (Same.two s12 p) two_upd
    refine ⟨_, rfl, _, rfl, intV v, 1, ck_line ev, rfl, ?_⟩
    try unfold tNil
    show spCk2 K ckLine [u, .int (intV v + 1)] _ _ _
    refine ⟨u, du, _, rfl, (ou.ins hp q1), om_last c q1 fun eu c H22 s22 => ?_⟩
    refine ⟨_, rfl, p, _, dx, _, rfl, s22 _ _ upd_same, clC, T.no ("Try", "mate") (by decide), by show 1 < 1000; decide, ?_⟩
    exact c _ (q1.trans (Same2.trans (Same.two s22 p) two_upd)) upd_same
theorem scI_Probe : FnScope ["self", "line", "mate"] ["self", "line", "mate"] (defScope (iSt 55)) := ⟨rfl, rfl, rfl, by decide +kernel, rfl, by decide +kernel, by decide +kernel⟩
theorem ok_Probe (T : KF P w K mg base) {fd : FuncData} (F : IniD K ("Probe", 55) fd) : FnOk P w K mg base (L2.CX P w) 5 (ma K (ga K "Probe") "__init__") fd ["self", "line", "mate"] (spMk K (ga K "Probe") 2 (oc2 fun v u => (thenE (ckLine 1 v) (ckMate (intV v) u))) (fun as => match as with | [v, u] => [("line", v), ("mate", u)] | _ => [])) := by
  obtain ⟨fL, GL, bL, ⟨dL, rL, bL1⟩, kL, gL⟩ := c_ckl (w := w) T
  obtain ⟨fM, GM, bM, kM, gM⟩ := c_mate (w := w) T
  obtain ⟨_, clC, _⟩ := T.gk ("Probe", 55) (by decide)
  refine (FunD.ok (k := 4) F scI_Probe (fun vs H Q E h => ?_) (fun cdv A outer s H vs Q E hr h => ?_))
  · obtain ⟨p, dx, as, rfl, hl, _⟩ := h
    show as.length + 1 = 3
    rw [hl]
  · obtain ⟨p, dx, as, rfl, hl, hp, ao, c⟩ := h
    obtain ⟨v, u, rfl⟩ : ∃ v u, as = [v, u] := by
      match as, hl with
      | [v, u], _ => exact ⟨_, _, rfl⟩
    obtain ⟨dv, ov⟩ := ao v (by simp)
    obtain ⟨du, ou⟩ := ao u (by simp)
    refine ⟨_, pss_cons (ps_fld (pv 0) (pe_call (E := E) GL (hr.mono (by decide)) (by rfl) gL kL bL1 rL (passes_call (takes_of rfl rfl rfl rfl) fun _ _ _ _ h => h) (pa_cons (pv 1) pa_nil)) rfl)
      (pss_one (ps_fld (pv 0) (pe_call (E := E) GM (hr.mono (by decide)) (by rfl) gM kM bM .nil (passes_call (takes_of rfl rfl rfl rfl) fun _ _ _ _ h => h) (pa_cons (pv 2) (pa_cons (pv 1) pa_nil))) rfl)), ?_⟩
    have c : Om K H p (ga K "Probe") dx (thenE (ckLine 1 v) (ckMate (intV v) u)) [("line", v), ("mate", u)] Q E := c
    refine ⟨_, rfl, ?_⟩
    try unfold tNil
    show spCk2 K ckLine [v, .int 1] _ _ _
    refine ⟨v, dv, 1, rfl, ov, om_step c (fun _ _ _ e => e) fun ev c H12 s12 => ?_⟩
    refine ⟨_, rfl, p, _, dx, _, rfl, s12 _ _ hp, clC, T.no ("Probe", "line") (by decide), by show 0 < 1000; decide, ?_⟩
    have q1 : Same2 H (upd H12 p (.ins (ga K "Probe") dx [("line", v)])) p := Same2.trans (Same.two s12 p) two_upd
    refine ⟨_, rfl, _, rfl, ?_⟩
    try unfold tNil
    show spMate K [u, v] _ _ _
    refine ⟨u, du, intV v, by rw [← ck_line ev], (ou.ins hp q1), om_last c q1 fun eu c H22 s22 => ?_⟩
    refine ⟨_, rfl, p, _, dx, _, rfl, s22 _ _ upd_same, clC, T.no ("Probe", "mate") (by decide), by show 1 < 1000; decide, ?_⟩
    exact c _ (q1.trans (Same2.trans (Same.two s22 p) two_upd)) upd_same
theorem scI_Meet : FnScope ["self", "line", "mate"] ["self", "line", "mate"] (defScope (iSt 56)) := ⟨rfl, rfl, rfl, by decide +kernel, rfl, by decide +kernel, by decide +kernel⟩
theorem ok_Meet (T : KF P w K mg base) {fd : FuncData} (F : IniD K ("Meet", 56) fd) : FnOk P w K mg base (L2.CX P w) 5 (ma K (ga K "Meet") "__init__") fd ["self", "line", "mate"] (spMk K (ga K "Meet") 2 (oc2 fun v u => (thenE (ckLine 1 v) (ckLine (intV v + 1) u))) (fun as => match as with | [v, u] => [("line", v), ("mate", u)] | _ => [])) := by
  obtain ⟨fL, GL, bL, ⟨dL, rL, bL1⟩, kL, gL⟩ := c_ckl (w := w) T
  obtain ⟨_, clC, _⟩ := T.gk ("Meet", 56) (by decide)
  refine (FunD.ok (k := 4) F scI_Meet (fun vs H Q E h => ?_) (fun cdv A outer s H vs Q E hr h => ?_))
  · obtain ⟨p, dx, as, rfl, hl, _⟩ := h
    show as.length + 1 = 3
    rw [hl]
  · obtain ⟨p, dx, as, rfl, hl, hp, ao, c⟩ := h
    obtain ⟨v, u, rfl⟩ : ∃ v u, as = [v, u] := by
      match as, hl with
      | [v, u], _ => exact ⟨_, _, rfl⟩
    obtain ⟨dv, ov⟩ := ao v (by simp)
    obtain ⟨du, ou⟩ := ao u (by simp)
    refine ⟨_, pss_cons (ps_fld (pv 0) (pe_call (E := E) GL (hr.mono (by decide)) (by rfl) gL kL bL1 rL (passes_call (takes_of rfl rfl rfl rfl) fun _ _ _ _ h => h) (pa_cons (pv 1) pa_nil)) rfl)
      (pss_one (ps_fld (pv 0) (pe_call (E := E) GL (hr.mono (by decide)) (by rfl) gL kL bL .nil (passes_call (takes_of rfl rfl rfl rfl) fun _ _ _ _ h => h) (pa_cons (pv 2) (pa_cons (pe_op op_add (pv 1) pe_int) pa_nil))) rfl)), ?_⟩
    have c : Om K H p (ga K "Meet") dx (thenE (ckLine 1 v) (ckLine (intV v + 1) u)) [("line", v), ("mate", u)] Q E := c
    refine ⟨_, rfl, ?_⟩
    try unfold tNil
    show spCk2 K ckLine [v, .int 1] _ _ _
    refine ⟨v, dv, 1, rfl, ov, om_step c (fun _ _ _ e => e) fun ev c H12 s12 => ?_⟩
    refine ⟨_, rfl, p, _, dx, _, rfl, s12 _ _ hp, clC, T.no ("Meet", "line") (by decide), by show 0 < 1000; decide, ?_⟩
    have q1 : Same2 H (upd H12 p (.ins (ga K "Meet") dx [("line", v)])) p := Same2.trans (Same.two s12 p) two_upd
    refine ⟨_, rfl, _, rfl, intV v, 1, ck_line ev, rfl, ?_⟩
    try unfold tNil
    show spCk2 K ckLine [u, .int (intV v + 1)] _ _ _
    refine ⟨u, du, _, rfl, (ou.ins hp q1), om_last c q1 fun eu c H22 s22 => ?_⟩
    refine ⟨_, rfl, p, _, dx, _, rfl, s22 _ _ upd_same, clC, T.no ("Meet", "mate") (by decide), by show 1 < 1000; decide, ?_⟩
    exact c _ (q1.trans (Same2.trans (Same.two s22 p) two_upd)) upd_same
theorem scI_Redo : FnScope ["self", "day"] ["self", "day"] (defScope (iSt 59)) := ⟨rfl, rfl, rfl, by decide +kernel, rfl, by decide +kernel, by decide +kernel⟩
theorem ok_Redo (T : KF P w K mg base) {fd : FuncData} (F : IniD K ("Redo", 59) fd) : FnOk P w K mg base (L2.CX P w) 5 (ma K (ga K "Redo") "__init__") fd ["self", "day"] (spMk K (ga K "Redo") 1 (oc1 fun v => (ckDay 1 v)) (fun as => match as with | [v] => [("day", v)] | _ => [])) := by
  obtain ⟨fD, GD, bD, ⟨dD, rD, bD1⟩, kD, gD⟩ := c_ckd (w := w) T
  obtain ⟨_, clC, _⟩ := T.gk ("Redo", 59) (by decide)
  refine (FunD.ok (k := 4) F scI_Redo (fun vs H Q E h => ?_) (fun cdv A outer s H vs Q E hr h => ?_))
  · obtain ⟨p, dx, as, rfl, hl, _⟩ := h
    show as.length + 1 = 2
    rw [hl]
  · obtain ⟨p, dx, as, rfl, hl, hp, ao, c⟩ := h
    obtain ⟨v, rfl⟩ : ∃ v, as = [v] := by
      match as, hl with
      | [v], _ => exact ⟨_, rfl⟩
    obtain ⟨dv, ov⟩ := ao v (by simp)
    refine ⟨_, pss_one (ps_fld (pv 0) (pe_call (E := E) GD (hr.mono (by decide)) (by rfl) gD kD bD1 rD (passes_call (takes_of rfl rfl rfl rfl) fun _ _ _ _ h => h) (pa_cons (pv 1) pa_nil)) rfl), ?_⟩
    have c : Om K H p (ga K "Redo") dx (ckDay 1 v) [("day", v)] Q E := c
    refine ⟨_, rfl, ?_⟩
    try unfold tNil
    show spCk2 K ckDay [v, .int 1] _ _ _
    refine ⟨v, dv, 1, rfl, ov, om_last c (fun _ _ _ e => e) fun ev c H12 s12 => ?_⟩
    refine ⟨_, rfl, p, _, dx, _, rfl, s12 _ _ hp, clC, T.no ("Redo", "day") (by decide), by show 0 < 1000; decide, ?_⟩
    exact c _ (Same2.trans (Same.two s12 p) two_upd) upd_same
theorem scI_Shut : FnScope ["self", "day"] ["self", "day"] (defScope (iSt 61)) := ⟨rfl, rfl, rfl, by decide +kernel, rfl, by decide +kernel, by decide +kernel⟩
theorem ok_Shut (T : KF P w K mg base) {fd : FuncData} (F : IniD K ("Shut", 61) fd) : FnOk P w K mg base (L2.CX P w) 5 (ma K (ga K "Shut") "__init__") fd ["self", "day"] (spMk K (ga K "Shut") 1 (oc1 fun v => (ckDay 1 v)) (fun as => match as with | [v] => [("day", v)] | _ => [])) := by
  obtain ⟨fD, GD, bD, ⟨dD, rD, bD1⟩, kD, gD⟩ := c_ckd (w := w) T
  obtain ⟨_, clC, _⟩ := T.gk ("Shut", 61) (by decide)
  refine (FunD.ok (k := 4) F scI_Shut (fun vs H Q E h => ?_) (fun cdv A outer s H vs Q E hr h => ?_))
  · obtain ⟨p, dx, as, rfl, hl, _⟩ := h
    show as.length + 1 = 2
    rw [hl]
  · obtain ⟨p, dx, as, rfl, hl, hp, ao, c⟩ := h
    obtain ⟨v, rfl⟩ : ∃ v, as = [v] := by
      match as, hl with
      | [v], _ => exact ⟨_, rfl⟩
    obtain ⟨dv, ov⟩ := ao v (by simp)
    refine ⟨_, pss_one (ps_fld (pv 0) (pe_call (E := E) GD (hr.mono (by decide)) (by rfl) gD kD bD1 rD (passes_call (takes_of rfl rfl rfl rfl) fun _ _ _ _ h => h) (pa_cons (pv 1) pa_nil)) rfl), ?_⟩
    have c : Om K H p (ga K "Shut") dx (ckDay 1 v) [("day", v)] Q E := c
    refine ⟨_, rfl, ?_⟩
    try unfold tNil
    show spCk2 K ckDay [v, .int 1] _ _ _
    refine ⟨v, dv, 1, rfl, ov, om_last c (fun _ _ _ e => e) fun ev c H12 s12 => ?_⟩
    refine ⟨_, rfl, p, _, dx, _, rfl, s12 _ _ hp, clC, T.no ("Shut", "day") (by decide), by show 0 < 1000; decide, ?_⟩
    exact c _ (Same2.trans (Same.two s12 p) two_upd) upd_same
theorem scI_Rise : FnScope ["self", "upto", "lines"] ["self", "upto", "lines"] (defScope (iSt 57)) := ⟨rfl, rfl, rfl, by decide +kernel, rfl, by decide +kernel, by decide +kernel⟩
theorem ok_Rise (T : KF P w K mg base) {fd : FuncData} (F : IniD K ("Rise", 57) fd) : Sk.FnSK P w K mg base (L2.CX P w) 5 (ma K (ga K "Rise") "__init__") "upto" (Sk.spSK (spMkS K (ga K "Rise") ocLines "lines" "upto")) := by
  obtain ⟨fC, GC, bC, kC, gC⟩ := c_lines (w := w) T
  obtain ⟨fS, GS, bS, kS, gS⟩ := c_lstop (w := w) T
  obtain ⟨_, clC, _⟩ := T.gk ("Rise", 57) (by decide)
  obtain ⟨oc, od, dV, kV, doc, pm, an, cdv, ct, osl, rfl, lk, hcd, hD, hK⟩ := F.ex
  rcases hD with ⟨_, rfl⟩ | ⟨e, _⟩
  case inr => exact absurd rfl e
  rcases hK with e | ⟨D, rfl, hq⟩
  case inl => exact nomatch e
  obtain ⟨uv, hu, ru⟩ := hq ("upto", .non) (by show _ ∈ [(("upto" : Str), V.non)]; exact List.mem_singleton.mpr rfl)
  have ru : uv = Value.none := ru
  subst ru
  refine Sk.fn_sk (p1 := "self") (kn := "upto") (pv := "lines") lk hcd scI_Rise StX.cxUp (fun a rest u => ?b1) ⟨D, hu, fun a rest => ?b0⟩ fun A outer s H vs Q E hr h => ?_
  case b1 => cases rest <;> rfl
  case b0 => cases rest <;> exact ⟨_, _, _, _, _, _, rfl, rfl, rfl⟩
  obtain ⟨p, dx, u, a, xs, rfl, hp, ha, ⟨du, ou⟩, ao, c⟩ := h
  refine ⟨_, pss_cons (ps_fld (pv 0) (pe_call (E := E) GC (hr.mono (by decide)) (by rfl) gC kC bC .nil (passes_call (takes_of rfl rfl rfl rfl) fun _ _ _ _ h => h) (pa_cons (pv 2) pa_nil)) rfl)
    (pss_one (ps_fld (pv 0) (pe_call (E := E) GS (hr.mono (by decide)) (by rfl) gS kS bS .nil (passes_call (takes_of rfl rfl rfl rfl) fun _ _ _ _ h => h) (pa_cons (pv 1) (pa_cons (pv 2) pa_nil))) rfl)), ?_⟩
  unfold ocLines at c
  refine ⟨_, rfl, ?_⟩
  try unfold tNil
  show spRise K "NoLine" "line" 6 [.ref a] _ _ _
  refine ⟨a, xs, rfl, ha, ao, om_step c (fun _ _ _ e => e) fun er c H1 s1 => ?_⟩
  refine ⟨_, rfl, p, _, dx, _, rfl, s1 _ _ hp, clC, T.no ("Rise", "lines") (by decide), by show 0 < 1000; decide, ?_⟩
  have q1 : Same2 H (upd H1 p (.ins (ga K "Rise") dx [("lines", .ref a)])) p := Same2.trans (Same.two s1 p) two_upd
  obtain ⟨ns, rfl, hne⟩ := rise_ints er
  have en : (ns.map V.int).map intV = ns := by rw [List.map_map]; exact List.map_id' ns
  rw [en] at c
  refine ⟨_, rfl, _, rfl, ?_⟩
  try unfold tNil
  show spStop K "NoLine" "line" [u, .ref a] _ _ _
  refine ⟨u, du, a, ns, rfl, ou.ins hp q1, q1 _ _ (fun e => by rw [e, hp] at ha; cases ha) ha, hne, om_last c q1 fun es c H2 s2 => ?_⟩
  refine ⟨_, rfl, p, _, dx, _, rfl, s2 _ _ upd_same, clC, T.no ("Rise", "upto") (by decide), by show 1 < 1000; decide, ?_⟩
  exact c _ (q1.trans (Same2.trans (Same.two s2 p) two_upd)) upd_same
theorem scI_Night : FnScope ["self", "upto", "lines"] ["self", "upto", "lines"] (defScope (iSt 58)) := ⟨rfl, rfl, rfl, by decide +kernel, rfl, by decide +kernel, by decide +kernel⟩
theorem ok_Night (T : KF P w K mg base) {fd : FuncData} (F : IniD K ("Night", 58) fd) : Sk.FnSK P w K mg base (L2.CX P w) 5 (ma K (ga K "Night") "__init__") "upto" (Sk.spSK (spMkS K (ga K "Night") ocLines "lines" "upto")) := by
  obtain ⟨fC, GC, bC, kC, gC⟩ := c_lines (w := w) T
  obtain ⟨fS, GS, bS, kS, gS⟩ := c_lstop (w := w) T
  obtain ⟨_, clC, _⟩ := T.gk ("Night", 58) (by decide)
  obtain ⟨oc, od, dV, kV, doc, pm, an, cdv, ct, osl, rfl, lk, hcd, hD, hK⟩ := F.ex
  rcases hD with ⟨_, rfl⟩ | ⟨e, _⟩
  case inr => exact absurd rfl e
  rcases hK with e | ⟨D, rfl, hq⟩
  case inl => exact nomatch e
  obtain ⟨uv, hu, ru⟩ := hq ("upto", .non) (by show _ ∈ [(("upto" : Str), V.non)]; exact List.mem_singleton.mpr rfl)
  have ru : uv = Value.none := ru
  subst ru
  refine Sk.fn_sk (p1 := "self") (kn := "upto") (pv := "lines") lk hcd scI_Night StX.cxUp (fun a rest u => ?b1) ⟨D, hu, fun a rest => ?b0⟩ fun A outer s H vs Q E hr h => ?_
  case b1 => cases rest <;> rfl
  case b0 => cases rest <;> exact ⟨_, _, _, _, _, _, rfl, rfl, rfl⟩
  obtain ⟨p, dx, u, a, xs, rfl, hp, ha, ⟨du, ou⟩, ao, c⟩ := h
  refine ⟨_, pss_cons (ps_fld (pv 0) (pe_call (E := E) GC (hr.mono (by decide)) (by rfl) gC kC bC .nil (passes_call (takes_of rfl rfl rfl rfl) fun _ _ _ _ h => h) (pa_cons (pv 2) pa_nil)) rfl)
    (pss_one (ps_fld (pv 0) (pe_call (E := E) GS (hr.mono (by decide)) (by rfl) gS kS bS .nil (passes_call (takes_of rfl rfl rfl rfl) fun _ _ _ _ h => h) (pa_cons (pv 1) (pa_cons (pv 2) pa_nil))) rfl)), ?_⟩
  unfold ocLines at c
  refine ⟨_, rfl, ?_⟩
  try unfold tNil
  show spRise K "NoLine" "line" 6 [.ref a] _ _ _
  refine ⟨a, xs, rfl, ha, ao, om_step c (fun _ _ _ e => e) fun er c H1 s1 => ?_⟩
  refine ⟨_, rfl, p, _, dx, _, rfl, s1 _ _ hp, clC, T.no ("Night", "lines") (by decide), by show 0 < 1000; decide, ?_⟩
  have q1 : Same2 H (upd H1 p (.ins (ga K "Night") dx [("lines", .ref a)])) p := Same2.trans (Same.two s1 p) two_upd
  obtain ⟨ns, rfl, hne⟩ := rise_ints er
  have en : (ns.map V.int).map intV = ns := by rw [List.map_map]; exact List.map_id' ns
  rw [en] at c
  refine ⟨_, rfl, _, rfl, ?_⟩
  try unfold tNil
  show spStop K "NoLine" "line" [u, .ref a] _ _ _
  refine ⟨u, du, a, ns, rfl, ou.ins hp q1, q1 _ _ (fun e => by rw [e, hp] at ha; cases ha) ha, hne, om_last c q1 fun es c H2 s2 => ?_⟩
  refine ⟨_, rfl, p, _, dx, _, rfl, s2 _ _ upd_same, clC, T.no ("Night", "upto") (by decide), by show 1 < 1000; decide, ?_⟩
  exact c _ (q1.trans (Same2.trans (Same.two s2 p) two_upd)) upd_same
theorem scI_Renew : FnScope ["self", "upto", "days"] ["self", "upto", "days"] (defScope (iSt 60)) := ⟨rfl, rfl, rfl, by decide +kernel, rfl, by decide +kernel, by decide +kernel⟩
theorem ok_Renew (T : KF P w K mg base) {fd : FuncData} (F : IniD K ("Renew", 60) fd) : Sk.FnSK P w K mg base (L2.CX P w) 5 (ma K (ga K "Renew") "__init__") "upto" (Sk.spSK (spMkS K (ga K "Renew") ocDays "days" "upto")) := by
  obtain ⟨fC, GC, bC, kC, gC⟩ := c_days (w := w) T
  obtain ⟨fS, GS, bS, kS, gS⟩ := c_dstop (w := w) T
  obtain ⟨_, clC, _⟩ := T.gk ("Renew", 60) (by decide)
  obtain ⟨oc, od, dV, kV, doc, pm, an, cdv, ct, osl, rfl, lk, hcd, hD, hK⟩ := F.ex
  rcases hD with ⟨_, rfl⟩ | ⟨e, _⟩
  case inr => exact absurd rfl e
  rcases hK with e | ⟨D, rfl, hq⟩
  case inl => exact nomatch e
  obtain ⟨uv, hu, ru⟩ := hq ("upto", .non) (by show _ ∈ [(("upto" : Str), V.non)]; exact List.mem_singleton.mpr rfl)
  have ru : uv = Value.none := ru
  subst ru
  refine Sk.fn_sk (p1 := "self") (kn := "upto") (pv := "days") lk hcd scI_Renew StX.cxUp (fun a rest u => ?b1) ⟨D, hu, fun a rest => ?b0⟩ fun A outer s H vs Q E hr h => ?_
  case b1 => cases rest <;> rfl
  case b0 => cases rest <;> exact ⟨_, _, _, _, _, _, rfl, rfl, rfl⟩
  obtain ⟨p, dx, u, a, xs, rfl, hp, ha, ⟨du, ou⟩, ao, c⟩ := h
  refine ⟨_, pss_cons (ps_fld (pv 0) (pe_call (E := E) GC (hr.mono (by decide)) (by rfl) gC kC bC .nil (passes_call (takes_of rfl rfl rfl rfl) fun _ _ _ _ h => h) (pa_cons (pv 2) pa_nil)) rfl)
    (pss_one (ps_fld (pv 0) (pe_call (E := E) GS (hr.mono (by decide)) (by rfl) gS kS bS .nil (passes_call (takes_of rfl rfl rfl rfl) fun _ _ _ _ h => h) (pa_cons (pv 1) (pa_cons (pv 2) pa_nil))) rfl)), ?_⟩
  unfold ocDays at c
  refine ⟨_, rfl, ?_⟩
  try unfold tNil
  show spRise K "NoDay" "day" 200 [.ref a] _ _ _
  refine ⟨a, xs, rfl, ha, ao, om_step c (fun _ _ _ e => e) fun er c H1 s1 => ?_⟩
  refine ⟨_, rfl, p, _, dx, _, rfl, s1 _ _ hp, clC, T.no ("Renew", "days") (by decide), by show 0 < 1000; decide, ?_⟩
  have q1 : Same2 H (upd H1 p (.ins (ga K "Renew") dx [("days", .ref a)])) p := Same2.trans (Same.two s1 p) two_upd
  obtain ⟨ns, rfl, hne⟩ := rise_ints er
  have en : (ns.map V.int).map intV = ns := by rw [List.map_map]; exact List.map_id' ns
  rw [en] at c
  refine ⟨_, rfl, _, rfl, ?_⟩
  try unfold tNil
  show spStop K "NoDay" "day" [u, .ref a] _ _ _
  refine ⟨u, du, a, ns, rfl, ou.ins hp q1, q1 _ _ (fun e => by rw [e, hp] at ha; cases ha) ha, hne, om_last c q1 fun es c H2 s2 => ?_⟩
  refine ⟨_, rfl, p, _, dx, _, rfl, s2 _ _ upd_same, clC, T.no ("Renew", "upto") (by decide), by show 1 < 1000; decide, ?_⟩
  exact c _ (q1.trans (Same2.trans (Same.two s2 p) two_upd)) upd_same
end
end K9
set_option Elab.async false
set_option linter.all false
set_option maxRecDepth 100000
set_option maxHeartbeats 1000000
/-! try: .. except X as e: v = e, and v asked behind the try: the caught error is tracked from the end of the suite on. -/
namespace Hd
open PySem PySem.Spec PyProof.Rows L2
/-- an error at a: its class, its dict -/
def ExF (C : Value) (d : Option Addr) (a : Addr) : HO := .ext fun h => ∃ (oe : Obj) (vs : Array Value), h.get? a = some oe ∧ Zc C d oe ∧ oe.data = .fields vs
theorem exF_ok {P : Program} {w : World} {H : Hp} {h : Heap} {C : Value} {d : Option Addr} {a : Addr} {oe : Obj} {vs : Array Value} (e : h.get? a = some oe) (z : Zc C d oe) (hd : oe.data = .fields vs) : ObjOk P w H h a (ExF C d a) :=
  ⟨⟨oe, vs, e, z, hd⟩, ⟨oe, e⟩, fun _ _ ⟨o, us, b1, b2, b3⟩ k => ⟨o, us, k _ b1, b2, b3⟩⟩
theorem exF_at {P : Program} {w : World} {H : Hp} {h : Heap} {C : Value} {d : Option Addr} {a : Addr} (ok : HOk P w H h) (e : H a = some (ExF C d a)) : ∃ (oe : Obj) (vs : Array Value), h.get? a = some oe ∧ Zc C d oe ∧ oe.data = .fields vs := by
  have z : ObjOk P w H h a (ExF C d a) := ok a _ e
  exact z.1
section
variable {X : Cx} {pins : List (Addr × Obj)} {σ : L2.St} {H : Hp} {s : Shared} {a : Addr} {oe : Obj} {vs : Array Value} {C : Value} {d : Option Addr}
/-- a pinned error becomes a tracked one -/
theorem track (I : Inv X ((a, oe) :: pins) σ H s) (z : Zc C d oe) (hd : oe.data = .fields vs) (n0 : X.s_0.heap.get? a = none) (np : ∀ p ∈ X.pn ++ pins, p.1 ≠ a) : Inv X pins σ (upd H a (ExF C d a)) s := by
  obtain ⟨ha, na, nL, nF, nc⟩ := I.pin (a, oe) (List.mem_append_right _ List.mem_cons_self)
  have ha : s.heap.get? a = some oe := ha
  have na : H a = none := na
  have other : ∀ {b : Addr} {u : HO}, H b = some u → upd H a (ExF C d a) b = some u := fun {b u} e => by
    rw [upd_ne (fun q => by rw [q, na] at e; cases e)]
    exact e
  have old : ∀ {b : Addr} {o : Obj}, X.s_0.heap.get? b = some o → upd H a (ExF C d a) b = H b := fun {b o} e => upd_ne fun q => by
    rw [q, n0] at e
    cases e
  refine ⟨I.ok, I.os, I.bare, ⟨I.base.keep, I.base.slot, fun b o e n hx => ?_, I.base.there, fun b xs e => ?_, fun b o u e => ?_, fun b ps e => ?_⟩, I.loc, I.cell, ?_, fun x c e => ?_, fun p hp => ?_, fun b u e => ?_, I.len⟩
  · rw [old e]
    exact I.base.free b o e n hx
  · exact other (I.base.tups b xs e)
  · exact other (I.base.frzs b o u e)
  · obtain ⟨more, q⟩ := I.base.tbls b ps e
    exact ⟨more, other q⟩
  · rw [upd_ne (Ne.symm nL)]
    exact I.free
  · rw [upd_ne]
    · exact I.freeC x c e
    · intro q
      obtain ⟨v, o, ho, hv⟩ := I.cell x c e
      rw [q, ha] at ho
      cases ho
      exact nc v hv
  · have hp2 : p ∈ X.pn ++ ((a, oe) :: pins) := (List.mem_append.mp hp).elim (fun q => List.mem_append_left _ q) fun q => List.mem_append_right _ (List.mem_cons_of_mem _ q)
    obtain ⟨p1, p2, p3⟩ := I.pin p hp2
    exact ⟨p1, by rw [upd_ne (np p hp)]; exact p2, p3⟩
  · by_cases q : b = a
    · rw [q, upd_same] at e
      cases e
      rw [q]
      exact exF_ok ha z hd
    · rw [upd_ne q] at e
      exact (I.hok b u e).stay (fun _ _ _ r => r) (fun _ r => other r) fun _ _ r => other r
end
/-- what the clause wishes: behind its suite the error is tracked -/
def wHold (K : PySem.W.Frag) (c : Value) (i : Nat) (ts : Addr → Value → Option Addr → TS) (Wout : WX) (D : Ends) : WX := fun cls d σ H =>
  ∃ b, PySem.W.exmOne K cls c = some b ∧ (b = false → Wout cls d σ H) ∧
    (b = true → ∀ a, H a = none → ts a cls d { nx := fun σ6 H6 => D.nx (σ6.set i none) (upd H6 a (ExF cls d a)), rt := D.rt } (σ.set i (some (.ref a))) H)
section
variable {X : Cx} {x n : Str} {c : Value} {i : Nat} {body suite : List Stmt} {b₀ : Stmt} {np pos pos' : Pos} {tb : WX → TS} {ts : Addr → Value → Option Addr → TS} {Wout : WX}
theorem ps_try_hold (hs : X.stack = X.env :: X.outer) (hf : X.env.frame = some X.env.locals) (hN : X.N.Nodup) (hi : X.N[i]? = some n) (hln : X.env.kindOf n = some .local) (hc : Names X x c) (hex : X.ex = []) (tk : Takes X Wout)
    (hb : ∀ (W : WX) (pn : List (Addr × Obj)) (xe : Value → Shared → Prop), Takes (X.tr pn xe) W → PassesOwn (model X.prog X.w) X.A X.env xe → PSs (X.tr pn xe) body (tb W))
    (hsu : ∀ (a : Addr) (oe : Obj) (cls : Value) (d : Option Addr) (pn : List (Addr × Obj)), Zc cls d oe → (∃ vs, oe.data = .fields vs) → PSs (X.suite a ((a, oe) :: pn)) (b₀ :: suite) (ts a cls d)) :
    PS X (.Try body [.ExceptHandler (some (.Name x np)) (some n) (b₀ :: suite) pos'] [] [] pos) (fun D σ H => tb (wHold X.K c i ts Wout D) D σ H) := by
  constructor
  intro pins s σ H D I h
  have ok := I.ok
  have fr : X.A.frames = some (X.env :: X.outer) := ok.frames.trans (congrArg some hs)
  refine wpAny_Try_except (wpAny_mono ((hb _ (X.pn ++ pins) _ ?takes PassesOwn.looking).run [] s σ H D (I.toTry _) h) (fun fl t ht => ?_) fun _ _ z => z)
  case takes =>
    intro u t out
    obtain ⟨a, B, t0, ps0, σ0, H0, cls, d, rfl, J, nb, up, sky, na, os, ag, b, hb1, hno, hyes⟩ := out
    have J0 : Inv X pins σ0 H0 t0 := J.ofTry ok
    rw [hs] at sky
    have skyB : B.get? a = none := by
      rcases sky with q | q | q
      · exact q.2.1
      · exact q.2.1
      · exact q.2.1
    refine Sky.land Zc.steady fr hf sky fun g1 fl1 up1 => ?_
    have L1 : Inv X pins σ0 H0 { t with heap := g1 } := J0.landed nb fl1.1 (up.trans up1) os ag
    obtain ⟨o1, us1, e1, z1, d1⟩ := fl1.there
    have offStack : a ∉ frs (X.env :: X.outer) := fun hm => by
      obtain ⟨_, o', e', hnf⟩ := fl1.2.2.1.mem hm
      rw [e1] at e'
      cases e'
      exact hnf _ d1
    have offL : a ≠ X.env.locals := fun q => offStack (List.mem_filterMap.mpr ⟨X.env, List.mem_cons_self, hf.trans (congrArg some q.symm)⟩)
    have offF : a ∉ X.fs := fun hm => let ⟨e, he, q⟩ := List.mem_filterMap.mp hm; offStack (List.mem_filterMap.mpr ⟨e, List.mem_cons_of_mem _ he, q⟩)
    have fresh : t0.heap.get? a = none := by
      cases q : t0.heap.get? a with
      | none => rfl
      | some o =>
        have q2 := nb a o q (by rw [hs]; exact offStack)
        rw [skyB] at q2
        cases q2
    have fresh0 : X.s_0.heap.get? a = none := by
      cases q : X.s_0.heap.get? a with
      | none => rfl
      | some o =>
        by_cases hx : a ∈ X.ex
        · exact absurd hx (by rw [hex]; simp)
        · obtain ⟨o', q2⟩ := J0.base.there a o q hx
          rw [fresh] at q2
          cases q2
    have pinsOff : ∀ p ∈ X.pn ++ pins, p.1 ≠ a := fun p hp q => by
      have q2 := (J0.pin p hp).1
      rw [q, fresh] at q2
      cases q2
    have S1 := L1.suite e1 d1 na offL offF
    refine wpAny_handleBy_cons (codeAny_handlers_test ?_) (by intro q; cases q)
    have LT : PySem.W.Looks (model X.prog X.w) g1 (typeOf (.ref a)) cls := fun _ _ _ r k q => wpAny_typeOf_ref (k _ _ e1) (by rw [z1.1]; exact q)
    have LM := PySem.W.exm_one (M := model X.prog X.w) L1.kIn LT hb1
    have asks : ∀ {Q E : Value → Shared → Prop}, Q c { t with heap := g1 } → wpAny (model X.prog X.w) (X.A.mark (some (.ref a))) (eval (.Name x np) X.env) Q E { t with heap := g1 } := fun {Q E} q => by
      obtain ⟨hg, hdbg, hm | ⟨hm, hv, hnn⟩⟩ := hc
      · exact ld_glob (X := X.suite a ((a, o1) :: (X.pn ++ pins))) S1 hg hm q hdbg
      · exact ld_blt (X := X.suite a ((a, o1) :: (X.pn ++ pins))) S1 hg hm hv q hnn hdbg
    refine asks (LM.here ?_)
    cases b with
    | false =>
      refine wpAny_handleBy_nil ?_
      obtain ⟨_, _, _, o3, us3, T, _, _, e3, _, d3, i3, _⟩ := id fl1
      unfold PySem.passOn
      refine wpAny_bind (wpAny_field e3 d3 i3 ?_)
      rw [if_neg (fun q : (Value.ref T == Value.none) = true => nomatch q)]
      have away : wpAny (model X.prog X.w) X.A (setFlight (.ref a) X.env.frame) (fun _ r => wpAny (model X.prog X.w) X.A (throw (.ref a) : Sem Flow) (SP X pins D) X.xe r) X.xe { t with heap := g1 } := by
        rw [hf]
        refine HandSPX.setFlight_upZ fl1 fun g2 fl2 up2 => wpAny_throw (tk _ _ ?_)
        exact ⟨a, B, t0, pins, σ0, H0, cls, d, rfl, J0, nb, (up.trans up1).trans up2, .inr (.inr (by rw [hs]; exact fl2)), na, os, ag, hno rfl⟩
      first
        | exact wpAny_bind (wpAny_pure (wpAny_bind away))
        | exact wpAny_bind away
    | true =>
      refine codeAny_handlers_suite_as (HandSPX.lands_againZ fl1 fun g2 fl2 up2 => ?_)
      have L2' : Inv X pins σ0 H0 { t with heap := g2 } := J0.landed nb fl2.1 ((up.trans up1).trans up2) os ag
      obtain ⟨o2, us2, e2, z2, d2⟩ := fl2.there
      have S2 := L2'.suite e2 d2 na offL offF
      refine store_ok (X := X.suite a ((a, o2) :: (X.pn ++ pins))) (v := .ref a) S2 hN hi (.inl hln) rfl (fun t5 S5 => ?_) (.inr hln)
      refine wpAny_mono ((hsu a o2 cls d (X.pn ++ pins) z2 ⟨_, d2⟩).run [] t5 _ H0 _ S5 (hyes rfl a na)) (fun fl6 t6 h6 => ?_) (fun _ _ z => z.elim)
      have back : ∀ {σ6 : L2.St} {H6 : Hp}, Inv (X.suite a ((a, o2) :: (X.pn ++ pins))) [] σ6 H6 t6 → Inv X ((a, o2) :: pins) σ6 H6 t6 := fun S6 => by
        have U := S6.unsuite (pins := pins) ok
        exact ⟨U.ok, U.os, U.bare, U.base, U.loc, U.cell, U.free, U.freeC, fun p hp => S6.pin p (by
          rcases List.mem_append.mp hp with q | q
          · exact List.mem_append_left _ (List.mem_cons_of_mem _ (List.mem_append_left _ q))
          · rcases List.mem_cons.mp q with q | q
            · rw [q]
              exact List.mem_append_left _ List.mem_cons_self
            · exact List.mem_append_left _ (List.mem_cons_of_mem _ (List.mem_append_right _ q))), U.hok, U.len⟩
      cases fl6 with
      | next =>
        obtain ⟨σ6, H6, S6, q6⟩ := h6
        exact gone_ok (back S6) hN hi hln fun t7 J7 => ⟨_, _, track J7 z2 d2 fresh0 pinsOff, q6⟩
      | brk => obtain ⟨_, _, _, q6⟩ := h6; exact q6.elim
      | cont => obtain ⟨_, _, _, q6⟩ := h6; exact q6.elim
      | ret u =>
        obtain ⟨v6, σ6, H6, S6, r6, q6⟩ := h6
        exact gone_ok (S6.unsuite (pins := pins) ok) hN hi hln fun t7 J7 => ⟨v6, _, H6, J7, r6, q6⟩
  · cases fl with
    | next =>
      obtain ⟨σ1, H1, J1, q⟩ := ht
      exact wpAny_execs_nil ⟨σ1, H1, J1.ofTry ok, q⟩
    | brk =>
      obtain ⟨σ1, H1, J1, q⟩ := ht
      exact ⟨σ1, H1, J1.ofTry ok, q⟩
    | cont =>
      obtain ⟨σ1, H1, J1, q⟩ := ht
      exact ⟨σ1, H1, J1.ofTry ok, q⟩
    | ret u =>
      obtain ⟨v, σ1, H1, J1, r1, q⟩ := ht
      exact ⟨v, σ1, H1, J1.ofTry ok, r1, q⟩
end
end Hd
set_option Elab.async false
set_option linter.all false
set_option maxRecDepth 100000
set_option maxHeartbeats 1000000
/-! try: .. except X: .. except Y as n: .. : each error of the body is one of the two. -/
namespace Hd
open PySem PySem.Spec PyProof.Rows L2
def wTwo (K : PySem.W.Frag) (c c2 : Value) (i : Nat) (ts : TS) (ts2 : Addr → Value → Option Addr → TS) (D : Ends) : WX := fun cls d σ H =>
  (PySem.W.exmOne K cls c = some true ∧ ts { nx := D.nx, rt := D.rt } σ H) ∨
  (PySem.W.exmOne K cls c = some false ∧ PySem.W.exmOne K cls c2 = some true ∧ ∀ a, H a = none → ts2 a cls d { nx := fun σ6 H6 => D.nx (σ6.set i none) H6, rt := D.rt } (σ.set i (some (.ref a))) H)
section
variable {X : Cx} {x y n : Str} {c c2 : Value} {i : Nat} {body suite suite2 : List Stmt} {b₀ b₂ : Stmt} {np np2 pos pos' pos2 : Pos} {tb : WX → TS} {ts : TS} {ts2 : Addr → Value → Option Addr → TS}
theorem ps_try_two (hs : X.stack = X.env :: X.outer) (hf : X.env.frame = some X.env.locals) (hN : X.N.Nodup) (hi : X.N[i]? = some n) (hln : X.env.kindOf n = some .local) (hc : Names X x c) (hc2 : Names X y c2)
    (hb : ∀ (W : WX) (pn : List (Addr × Obj)) (xe : Value → Shared → Prop), Takes (X.tr pn xe) W → PassesOwn (model X.prog X.w) X.A X.env xe → PSs (X.tr pn xe) body (tb W))
    (hsu : ∀ (a : Addr) (oe : Obj) (pn : List (Addr × Obj)), PSs (X.suite a ((a, oe) :: pn)) (b₀ :: suite) ts)
    (hsu2 : ∀ (a : Addr) (oe : Obj) (cls : Value) (d : Option Addr) (pn : List (Addr × Obj)), Zc cls d oe → (∃ vs, oe.data = .fields vs) → PSs (X.suite a ((a, oe) :: pn)) (b₂ :: suite2) (ts2 a cls d)) :
    PS X (.Try body [.ExceptHandler (some (.Name x np)) none (b₀ :: suite) pos', .ExceptHandler (some (.Name y np2)) (some n) (b₂ :: suite2) pos2] [] [] pos) (fun D σ H => tb (wTwo X.K c c2 i ts ts2 D) D σ H) := by
  constructor
  intro pins s σ H D I h
  have ok := I.ok
  have fr : X.A.frames = some (X.env :: X.outer) := ok.frames.trans (congrArg some hs)
  refine wpAny_Try_except (wpAny_mono ((hb _ (X.pn ++ pins) _ ?takes PassesOwn.looking).run [] s σ H D (I.toTry _) h) (fun fl t ht => ?_) fun _ _ z => z)
  case takes =>
    intro u t out
    obtain ⟨a, B, t0, ps0, σ0, H0, cls, d, rfl, J, nb, up, sky, na, os, ag, wish⟩ := out
    have J0 : Inv X pins σ0 H0 t0 := J.ofTry ok
    rw [hs] at sky
    refine Sky.land Zc.steady fr hf sky fun g1 fl1 up1 => ?_
    have L1 : Inv X pins σ0 H0 { t with heap := g1 } := J0.landed nb fl1.1 (up.trans up1) os ag
    obtain ⟨o1, us1, e1, z1, d1⟩ := fl1.there
    have offStack : a ∉ frs (X.env :: X.outer) := fun hm => by
      obtain ⟨_, o', e', hnf⟩ := fl1.2.2.1.mem hm
      rw [e1] at e'
      cases e'
      exact hnf _ d1
    have offL : a ≠ X.env.locals := fun q => offStack (List.mem_filterMap.mpr ⟨X.env, List.mem_cons_self, hf.trans (congrArg some q.symm)⟩)
    have offF : a ∉ X.fs := fun hm => let ⟨e, he, q⟩ := List.mem_filterMap.mp hm; offStack (List.mem_filterMap.mpr ⟨e, List.mem_cons_of_mem _ he, q⟩)
    have S1 := L1.suite e1 d1 na offL offF
    have LT : PySem.W.Looks (model X.prog X.w) g1 (typeOf (.ref a)) cls := fun _ _ _ r k q => wpAny_typeOf_ref (k _ _ e1) (by rw [z1.1]; exact q)
    have asks : ∀ {v : Str} {cv : Value} {vp : Pos}, Names X v cv → ∀ {Q E : Value → Shared → Prop}, Q cv { t with heap := g1 } → wpAny (model X.prog X.w) (X.A.mark (some (.ref a))) (eval (.Name v vp) X.env) Q E { t with heap := g1 } := fun {v cv vp} hv {Q E} q => by
      obtain ⟨hg, hdbg, hm | ⟨hm, hw, hnn⟩⟩ := hv
      · exact ld_glob (X := X.suite a ((a, o1) :: (X.pn ++ pins))) S1 hg hm q hdbg
      · exact ld_blt (X := X.suite a ((a, o1) :: (X.pn ++ pins))) S1 hg hm hw q hnn hdbg
    rcases wish with ⟨m1, q1⟩ | ⟨m1, m2, q2⟩
    · refine wpAny_handleBy_cons (codeAny_handlers_test (asks hc ((PySem.W.exm_one (M := model X.prog X.w) L1.kIn LT m1).here ?_))) (by intro q; cases q)
      refine codeAny_handlers_suite (HandSPX.lands_againZ fl1 fun g2 fl2 up2 => ?_)
      have L2' : Inv X pins σ0 H0 { t with heap := g2 } := J0.landed nb fl2.1 ((up.trans up1).trans up2) os ag
      obtain ⟨o2, us2, e2, z2, d2⟩ := fl2.there
      have S2 := L2'.suite e2 d2 na offL offF
      refine wpAny_mono ((hsu a o2 (X.pn ++ pins)).run [] _ _ H0 _ S2 q1) (fun fl6 t6 h6 => ?_) (fun _ _ z => z.elim)
      cases fl6 with
      | next => obtain ⟨σ6, H6, S6, q6⟩ := h6; exact ⟨σ6, H6, S6.unsuite (pins := pins) ok, q6⟩
      | brk => obtain ⟨_, _, _, q6⟩ := h6; exact q6.elim
      | cont => obtain ⟨_, _, _, q6⟩ := h6; exact q6.elim
      | ret u => obtain ⟨v6, σ6, H6, S6, r6, q6⟩ := h6; exact ⟨v6, σ6, H6, S6.unsuite (pins := pins) ok, r6, q6⟩
    · refine wpAny_handleBy_cons (codeAny_handlers_test (asks hc ((PySem.W.exm_one (M := model X.prog X.w) L1.kIn LT m1).here ?_))) (by intro q; cases q)
      refine wpAny_handleBy_cons (codeAny_handlers_test (asks hc2 ((PySem.W.exm_one (M := model X.prog X.w) L1.kIn LT m2).here ?_))) (by intro q; cases q)
      refine codeAny_handlers_suite_as (HandSPX.lands_againZ fl1 fun g2 fl2 up2 => ?_)
      have L2' : Inv X pins σ0 H0 { t with heap := g2 } := J0.landed nb fl2.1 ((up.trans up1).trans up2) os ag
      obtain ⟨o2, us2, e2, z2, d2⟩ := fl2.there
      have S2 := L2'.suite e2 d2 na offL offF
      refine store_ok (X := X.suite a ((a, o2) :: (X.pn ++ pins))) (v := .ref a) S2 hN hi (.inl hln) rfl (fun t5 S5 => ?_) (.inr hln)
      refine wpAny_mono ((hsu2 a o2 cls d (X.pn ++ pins) z2 ⟨_, d2⟩).run [] t5 _ H0 _ S5 (q2 a na)) (fun fl6 t6 h6 => ?_) (fun _ _ z => z.elim)
      cases fl6 with
      | next =>
        obtain ⟨σ6, H6, S6, q6⟩ := h6
        exact gone_ok (S6.unsuite (pins := pins) ok) hN hi hln fun t7 J7 => ⟨_, _, J7, q6⟩
      | brk => obtain ⟨_, _, _, q6⟩ := h6; exact q6.elim
      | cont => obtain ⟨_, _, _, q6⟩ := h6; exact q6.elim
      | ret u =>
        obtain ⟨v6, σ6, H6, S6, r6, q6⟩ := h6
        exact gone_ok (S6.unsuite (pins := pins) ok) hN hi hln fun t7 J7 => ⟨v6, _, H6, J7, r6, q6⟩
  · cases fl with
    | next =>
      obtain ⟨σ1, H1, J1, q⟩ := ht
      exact wpAny_execs_nil ⟨σ1, H1, J1.ofTry ok, q⟩
    | brk =>
      obtain ⟨σ1, H1, J1, q⟩ := ht
      exact ⟨σ1, H1, J1.ofTry ok, q⟩
    | cont =>
      obtain ⟨σ1, H1, J1, q⟩ := ht
      exact ⟨σ1, H1, J1.ofTry ok, q⟩
    | ret u =>
      obtain ⟨v, σ1, H1, J1, r1, q⟩ := ht
      exact ⟨v, σ1, H1, J1.ofTry ok, r1, q⟩
end
end Hd
set_option Elab.async false
set_option linter.all false
set_option maxRecDepth 100000
set_option maxHeartbeats 1000000
namespace Hd
open PySem PySem.Spec PyProof.Rows L2
/-- a caught error at a of the class at C, with the fields fs in its dict at d -/
structure ErF (H : Hp) (a C d : Addr) (fs : List (Str × V)) : Prop where
  ob : H a = some (ExF (.ref C) (some d) a)
  dc : H d = some (.xd fs)
theorem ErF.inst {X : Cx} {pins : List (Addr × Obj)} {σ : L2.St} {H : Hp} {s : Shared} {a C d : Addr} {fs : List (Str × V)} (I : Inv X pins σ H s) (r : ErF H a C d fs) :
    ∃ (ox od : Obj) (mA : Str → Option Value), PySem.W.InstAt s.heap a ox C (some od) ∧ (∀ n, PySem.W.lookIn n od = some (mA n)) ∧ ∀ n, RelO (fs.lookup n) (mA n) := by
  obtain ⟨oe, vs, ha, hz, hd⟩ := exF_at I.hok r.ob
  have hx : ObjOk X.prog X.w H s.heap d (.xd fs) := I.hok d _ r.dc
  obtain ⟨mA, hns, rel⟩ := hx
  obtain ⟨od, ho, hl⟩ := lookIn_ns hns
  exact ⟨oe, od, mA, ⟨ha, hz.1, by unfold PySem.W.notCls; rw [hd] <;> rfl, by rw [hz.2]; exact ho⟩, hl, rel⟩
/-- e.f -/
def tFF (K : PySem.W.Frag) (te : TE) (f : Str) : TE := fun σ H Q => te σ H fun x H1 => ∃ a C d fs v, x = .ref a ∧ ErF H1 a C d fs ∧ XfC K C ∧ PySem.W.findIn K (.ref C) f = some none ∧ fs.lookup f = some v ∧ Q v H1
theorem pe_ff {X : Cx} {e : Expr} {te : TE} {pos : Pos} {f : Str} (he : PE X e te) (hb : attributeBase e f X.env (eval e X.env) = eval e X.env := by rfl) : PE X (.Attribute e f pos) (tFF X.K te f) := by
  refine ⟨fun pins s σ H Q I h => attr_of hb (thn (he.run pins s σ H _ I h) fun u s1 hh => ?_)⟩
  obtain ⟨x, H1, I1, rx, a, C, d, fs, v, rfl, r, T, hno, l, q⟩ := hh
  obtain rfl : u = Value.ref a := rx
  obtain ⟨ox, od, mA, J, hl, rel⟩ := r.inst I1
  obtain ⟨z, hz, rz⟩ := RelO.some_of (v := v) (o := mA f) (by rw [← l]; exact rel f)
  exact HandSPX.exc_get I1.kIn J T.ga T.gg T.exC (PySem.W.findObj_own T.hdC hno rfl (by rw [hl, hz])) (handed_of rz) ⟨v, H1, I1.tok _, rz, q⟩
/-- isinstance(e, c) -/
def rIsF (K : PySem.W.Frag) : List V → Hp → VK → Prop := fun xs H Q => ∃ (a C d : Addr) (fs : List (Str × V)) (c : V) (u : Value) (b : Bool), xs = [.ref a, c] ∧ ErF H a C d fs ∧ L2.ExcC K C ∧ ClsV c u ∧ PySem.W.kitOne K (.ref C) u = some b ∧ Q (.bl b) H
theorem call_isF {X : Cx} : CallR X (.builtin "isinstance") (rIsF X.K) := by
  intro pins s σ H xs us Q I r h
  obtain ⟨a, C, d, fs, c, u, b, rfl, hi, T, k, e, q⟩ := h
  obtain ⟨u1, u2, rfl, r1, r2⟩ := vals2 r
  have e2 := k.eq r2
  subst e2
  cases (show u1 = Value.ref a from r1)
  have hcl : (PySem.W.clsIn X.K C).isSome = true := by
    obtain ⟨cd, hc, _⟩ := PySem.W.any_some T.hd
    rw [hc]
    rfl
  obtain ⟨ox, od, mA, J, _⟩ := hi.inst I
  exact PySem.W.kia_one (PySem.W.kitx_exc hcl T.hg T.hk T.hs T.ha T.hn T.ht T.hm) I.kIn J e (fun z => nomatch z) fun tk => ⟨.bl b, H, I.tok tk, rfl, q⟩
end Hd
namespace Oo
open PySem PySem.Spec PyProof.Rows L2
/-- repr of a text -/
abbrev rRepT : List V → Hp → VK → Prop := fun xs H Q => ∃ x : Str, xs = [.str x] ∧ (reprText x).length ≤ sizeLine ∧ Q (.str (reprText x)) H
theorem call_repr_txt {X : Cx} : CallR X (.builtin "repr") rRepT := by
  intro pins s σ H xs us Q I r h
  obtain ⟨x, rfl, hz, q⟩ := h
  obtain ⟨u, rfl, ru⟩ := vals1 r
  obtain ⟨t, rfl⟩ := (show ∃ t, u = Value.str x t from ru)
  exact PySem.P.repr_of_str ⟨.str _, H, I.tok _, ⟨_, rfl⟩, q⟩ hz
end Oo
set_option Elab.async false
set_option linter.all false
set_option maxRecDepth 100000
set_option maxHeartbeats 1000000
/-! Tests and expressions that only make new things. -/
namespace K9
open PySem PySem.Spec PyProof.Rows L2 RV EV He EF EI Hd LamX NdefX
def TestR (t : TT) (σ : L2.St) (H : Hp) (b : Bool) : Prop := ∀ H1, Same H H1 → ∀ F : Bool → Hp → Prop, (∀ H', Same H1 H' → F b H') → t σ H1 F
section
variable {t u : TT} {σ : L2.St} {H : Hp} {a b : Bool} {D : Ends} {A B : TS}
theorem TestR.and (h1 : TestR t σ H a) (h2 : TestR u σ H b) : TestR (tAnd t u) σ H (a && b) := fun H1 s1 F k => h1 H1 s1 _ fun H2 s2 => by
  cases a with
  | true => exact if_posB rfl (h2 H2 (s1.trans s2) _ fun H3 s3 => k H3 (s2.trans s3))
  | false => exact if_negB rfl (k H2 s2)
theorem TestR.or (h1 : TestR t σ H a) (h2 : TestR u σ H b) : TestR (tOr t u) σ H (a || b) := fun H1 s1 F k => h1 H1 s1 _ fun H2 s2 => by
  cases a with
  | true => exact if_posB rfl (k H2 s2)
  | false => exact if_negB rfl (h2 H2 (s1.trans s2) _ fun H3 s3 => k H3 (s2.trans s3))
theorem TestR.not (h : TestR t σ H a) : TestR (tNot t) σ H (!a) := fun H1 s1 F k => h H1 s1 _ fun H2 s2 => k H2 s2
theorem TestR.ifS (h : TestR t σ H b) (ht : b = true → ∀ H', Same H H' → A D σ H') (hf : b = false → ∀ H', Same H H' → B D σ H') : tIfS t A B D σ H := h H (fun _ _ e => e) _ fun H' s => by
  cases b with
  | true => exact if_posB rfl (ht rfl H' s)
  | false => exact if_negB rfl (hf rfl H' s)
end
theorem strB (x y : Str) : decide (V.str x = V.str y) = decide (x = y) := decide_eq_decide.mpr ⟨fun h => V.str.inj h, fun h => congrArg V.str h⟩
def ER (te : TE) (σ : L2.St) (H : Hp) (R : V → Hp → Prop) : Prop := ∀ H1, Same H H1 → ∀ F : VK, (∀ v H2, Same H1 H2 → R v H2 → F v H2) → te σ H1 F
def Stb (R : V → Hp → Prop) : Prop := ∀ v H H', Same H H' → R v H → R v H'
def IsV (x : V) : V → Hp → Prop := fun v _ => v = x
theorem stb_v {x : V} : Stb (IsV x) := fun _ _ _ _ h => h
section
variable {K : PySem.W.Frag} {σ : L2.St} {H : Hp} {ta tb te : TE} {R A B : V → Hp → Prop} {i : Nat} {b c : Bool}
theorem ER.mono {H1 : Hp} (h : ER te σ H R) (s : Same H H1) : ER te σ H1 R := fun H2 s2 => h H2 (s.trans s2)
theorem ER.go (h : ER te σ H R) {F : VK} (k : ∀ v H', Same H H' → R v H' → F v H') : te σ H F := h H (fun _ _ e => e) F k
theorem er_var {v : V} (hi : σ[i]? = some (some v)) (sr : Stb R) (hv : R v H) : ER (tVar i) σ H R := fun H1 s F k => ⟨_, hi, k _ _ (fun _ _ e => e) (sr _ _ _ s hv)⟩
theorem er_c {v : V} : ER (tC v) σ H (IsV v) := fun H1 s F k => k _ _ (fun _ _ e => e) rfl
theorem er_v {v : V} (hi : σ[i]? = some (some v)) : ER (tVar i) σ H (IsV v) := er_var hi stb_v rfl
theorem ER.op {r : R2} (ha : ER ta σ H A) (sa : Stb A) (hb : ER tb σ H B) (h : ∀ x y H1 (F : VK), Same H H1 → A x H1 → B y H1 → (∀ v H2, Same H1 H2 → R v H2 → F v H2) → r x y H1 F) : ER (tOp r ta tb) σ H R := fun H1 s1 F k =>
  ha H1 s1 _ fun x H2 s2 hx => hb H2 (s1.trans s2) _ fun y H3 s3 hy => h x y H3 F (s1.trans (s2.trans s3)) (sa _ _ _ s3 hx) hy fun v H4 s4 hv => k v H4 (s2.trans (s3.trans s4)) hv
/-- a call of a builtin with one operand -/
theorem ER.cb {r : List V → Hp → VK → Prop} (ha : ER ta σ H A) (h : ∀ x H1 (F : VK), Same H H1 → A x H1 → (∀ v H2, Same H1 H2 → R v H2 → F v H2) → r [x] H1 F) : ER (tCB r (tCons ta tNil)) σ H R := fun H1 s1 F k =>
  ha H1 s1 _ fun x H2 s2 hx => h x H2 F (s1.trans s2) hx fun v H3 s3 hv => k v H3 (s2.trans s3) hv
theorem ER.call {sp : Sp} {E : XK} (ha : ER ta σ H A) (h : ∀ x H1 (F : VK), Same H H1 → A x H1 → (∀ v H2, Same H1 H2 → R v H2 → F v H2) → sp [x] H1 F E) : ER (tCall sp [] E (tCons ta tNil)) σ H R := fun H1 s1 F k =>
  ha H1 s1 _ fun x H2 s2 hx => h x H2 F (s1.trans s2) hx fun v H3 s3 hv => k v H3 (s2.trans s3) hv
theorem ER.test (h : ER te σ H (IsV (.bl b))) : TestR (tTest te) σ H b := fun H1 s1 F k => h H1 s1 _ fun v H2 s2 e => ⟨b, e, k H2 s2⟩
theorem ER.and (ha : ER ta σ H (IsV (.bl b))) (hb : ER tb σ H (IsV (.bl c))) : ER (tAndV ta tb) σ H (IsV (.bl (b && c))) := fun H1 s1 F k => ha H1 s1 _ fun v H2 s2 e => by
  obtain rfl := e
  refine ⟨b, rfl, ?_⟩
  cases b with
  | true => exact if_posB rfl (hb H2 (s1.trans s2) _ fun v H3 s3 e => k v H3 (s2.trans s3) e)
  | false => exact if_negB rfl (k _ H2 s2 rfl)
theorem er_neS {x y : Str} (ha : ER ta σ H (IsV (.str x))) (hb : ER tb σ H (IsV (.str y))) : ER (tOp rNe ta tb) σ H (IsV (.bl (!decide (x = y)))) :=
  ha.op stb_v hb fun u v H1 F s e1 e2 k => by
    obtain rfl := e1
    obtain rfl := e2
    refine ⟨rfl, ?_⟩
    rw [strB]
    exact k _ H1 (fun _ _ e => e) rfl
theorem er_neI {x y : Int} (ha : ER ta σ H (IsV (.int x))) (hb : ER tb σ H (IsV (.int y))) : ER (tOp rNe ta tb) σ H (IsV (.bl (!decide (x = y)))) :=
  ha.op stb_v hb fun u v H1 F s e1 e2 k => by
    obtain rfl := e1
    obtain rfl := e2
    refine ⟨rfl, ?_⟩
    have e : decide (V.int x = V.int y) = decide (x = y) := decide_eq_decide.mpr ⟨V.int.inj, congrArg V.int⟩
    rw [e]
    exact k _ H1 (fun _ _ e => e) rfl
variable {tt : TT}
theorem er_if (ht : TestR tt σ H b) (h1 : b = true → ER ta σ H R) (h2 : b = false → ER tb σ H R) : ER (tIf tt ta tb) σ H R := fun H1 s1 F k => ht H1 s1 _ fun H2 s2 => by
  cases b with
  | true => exact if_posB rfl (h1 rfl H2 (s1.trans s2) F fun v H3 s3 r => k v H3 (s2.trans s3) r)
  | false => exact if_negB rfl (h2 rfl H2 (s1.trans s2) F fun v H3 s3 r => k v H3 (s2.trans s3) r)
end
abbrev tT2 (ta tb : TE) : TE := tTup (tCons ta (tCons tb tNil))
theorem er_any2 {σ : L2.St} {H : Hp} {ta tb : TE} {x y : V} (ha : ER ta σ H (IsV x)) (hb : ER tb σ H (IsV y)) : ER (tT2 ta tb) σ H (fun v H' => ∃ t, v = .ref t ∧ H' t = some (.tup [x, y])) := fun H1 s1 F k =>
  ha H1 s1 _ fun u H2 s2 e1 => hb H2 (s1.trans s2) _ fun v H3 s3 e2 => by
    obtain rfl := e1
    obtain rfl := e2
    exact ⟨by show 2 ≤ sizeLine; decide, fun t nt => k _ _ (s2.trans (s3.trans (same_new nt))) ⟨t, rfl, upd_same⟩⟩
theorem pss_of {X : Cx} {b : List Stmt} {t' : TS} (f : ∀ D σ H, t' D σ H → ∃ t, PSs X b t ∧ t D σ H) : PSs X b t' :=
  ⟨fun pins s σ H D I h => let ⟨_, p, q⟩ := f D σ H h; p.run pins s σ H D I q⟩
theorem takes_len {X : Cx} {W : WX} (tk : Takes X W) : Takes X (fun c d σ H => σ.length = X.N.length → W c d σ H) := fun u s' ⟨a, B, sI, pins, σ, H, cls, d, e, I, nb, up, sky, na, os, ag, wh⟩ =>
  tk u s' ⟨a, B, sI, pins, σ, H, cls, d, e, I, nb, up, sky, na, os, ag, wh I.len⟩
theorem map_inj {α β : Type} {f : α → β} : ∀ {l : List α}, (l.map f).Nodup → ∀ {a b : α}, a ∈ l → b ∈ l → f a = f b → a = b
  | x :: r, h, a, b, ha, hb, e => by
    obtain ⟨h1, h2⟩ := List.nodup_cons.mp (show (f x :: r.map f).Nodup from h)
    rcases List.mem_cons.mp ha with e1 | a1
    · rcases List.mem_cons.mp hb with e2 | b2
      · rw [e1, e2]
      · exact absurd (by rw [← e1, e]; exact List.mem_map_of_mem b2) h1
    · rcases List.mem_cons.mp hb with e2 | b2
      · exact absurd (by rw [← e2, ← e]; exact List.mem_map_of_mem a1) h1
      · exact map_inj h2 a1 b2 e
section
variable {P : Program} {w : World} {K : PySem.W.Frag} {mg : Str → Option Value} {base : Heap}
theorem err_inj (T : KF P w K mg base) {q r : Str × List Str} (hq : q ∈ errsN) (hr : r ∈ errsN) (e : ga K q.1 = ga K r.1) : q = r := map_inj T.ea hq hr e
theorem kit_no (T : KF P w K mg base) {q r : Str × List Str} (hq : q ∈ errsN) (hr : r ∈ errsN) (h1 : r ≠ q) (h2 : r.1 ∉ q.2) (h3 : ∀ b ∈ q.2, ∃ bs, (b, bs) ∈ errsN) :
    PySem.W.kitOne K (.ref (ga K q.1)) (.ref (ga K r.1)) = some false := by
  refine (kit (T.ek q hq) (T.ek r hr)).trans (congrArg some (decide_eq_false fun z => ?_))
  rcases z with z | z
  · exact h1 (err_inj T hr hq z)
  · obtain ⟨b, hb, e⟩ := List.mem_map.mp z
    obtain ⟨bs, hbs⟩ := h3 b hb
    have := err_inj T hbs hr e
    exact h2 (by rw [← this]; exact hb)
theorem kit_yes (T : KF P w K mg base) {q : Str × List Str} (hq : q ∈ errsN) : PySem.W.kitOne K (.ref (ga K q.1)) (.ref (ga K q.1)) = some true :=
  (kit (T.ek q hq) (T.ek q hq)).trans (by simp)
end
end K9
set_option Elab.async false
set_option linter.all false
set_option maxRecDepth 100000
set_option maxHeartbeats 1000000
/-! _law_heard. -/
namespace K9
open PySem PySem.Spec PyProof.Rows L2 RV EV He EF EI Hd LamX NdefX
abbrev sHeard : Stmt := top 66
abbrev scHd_N : List Str := ["_law_ask", "_law_caught", "error"]
theorem scHd : FnScope scHd_N ["_law_ask"] (defScope sHeard) := ⟨rfl, rfl, rfl, by decide +kernel, rfl, by decide +kernel, by decide +kernel⟩
/-! repr of any plain value, where no repr is under way -/
def repB (d : PyData) : Bool := d.showable && (decide (d.depth ≤ 20) && (decide (d.shown.length ≤ 1000) && PyData.strOk d.shown))
def rRepX : List V → Hp → VK → Prop := fun xs H Q => ∃ v d, xs = [v] ∧ Dat H v d ∧ repB d = true ∧ Q (.str d.shown) H
theorem call_repX {X : Cx} (hg : X.A.guards = some []) (hu : X.A.units + 64 < cLine) : CallR X (.builtin "repr") rRepX := by
  intro pins s σ H xs us Q I r h
  obtain ⟨v, d, rfl, o, hb, q⟩ := h
  obtain ⟨h1, hb⟩ := ba hb
  obtain ⟨h2, hb⟩ := ba hb
  obtain ⟨h3, _⟩ := ba hb
  have h2 := of_decide_eq_true h2
  have h3 := of_decide_eq_true h3
  have hz : d.shown.length ≤ sizeLine := by rw [sizeLine_eq]; omega
  cases o with
  | non =>
    obtain ⟨u, rfl, ru⟩ := vals1 r
    obtain rfl : u = Value.none := ru
    exact PySem.P.repr_of_none ⟨.str _, H, I.tok _, ⟨_, rfl⟩, q⟩
  | bl b =>
    obtain ⟨u, rfl, ru⟩ := vals1 r
    obtain rfl : u = Value.bool b := ru
    exact PySem.P.repr_of_bool ⟨.str _, H, I.tok _, ⟨_, rfl⟩, q⟩
  | int i =>
    obtain ⟨u, rfl, ru⟩ := vals1 r
    obtain ⟨t, rfl⟩ := (show ∃ t, u = Value.int i t from ru)
    exact PySem.P.repr_of_int (of_decide_eq_true h1) ⟨.str _, H, I.tok _, ⟨_, rfl⟩, q⟩
  | str x =>
    obtain ⟨u, rfl, ru⟩ := vals1 r
    obtain ⟨t, rfl⟩ := (show ∃ t, u = Value.str x t from ru)
    exact PySem.P.repr_of_str ⟨.str _, H, I.tok _, ⟨_, rfl⟩, q⟩ hz
  | tup e rr => exact call_repr hg hu pins s σ H _ us Q I r ⟨_, _, rfl, .tup e rr, h1, h2, hz, q⟩
  | lst e n rr => exact call_repr hg hu pins s σ H _ us Q I r ⟨_, _, rfl, .lst e n rr, h1, h2, hz, q⟩
  | dic e k rr => exact call_repr hg hu pins s σ H _ us Q I r ⟨_, _, rfl, .dic e k rr, h1, h2, hz, q⟩
/-- the four errors that are heard: class, field, how they are told -/
def fourN : List (Str × Str × Str) := [("BadFix", "value", "fix"), ("NoLine", "line", "line"), ("NoDay", "day", "day"), ("BadDeed", "at", "deed")]
def ErrH (K : PySem.W.Frag) (Q : VK) (cls : Value) (dd : Option Addr) (H1 : Hp) : Prop := ∃ q ∈ fourN, ∃ v d a, cls = .ref (ga K q.1) ∧ dd = some a ∧ H1 a = some (.xd [(q.2.1, v)]) ∧ Odd H1 v d ∧ repB d = true ∧
  ∀ r H2, Same H1 H2 → H2 r = some (.tup [.str q.2.2, .str d.shown]) → Q (.ref r) H2
def TTh (K : PySem.W.Frag) : (XK → Hp → VK → Prop) → Hp → VK → Prop := fun tl H Q => tl (ErrH K Q) H fun _ H1 => Q (.str "made") H1
abbrev tIsE (K : PySem.W.Frag) (x : Str) : TT := tB (tCB (rIsF K) (tCons (tVar 1) (tCons (tC (V.ref (ga K x))) tNil)))
abbrev tTold (K : PySem.W.Frag) (f tag : Str) : TE := tT2 (tC (V.str tag)) (tCB rRepX (tCons (tFF K (tVar 1) f) tNil))
def tHr (K : PySem.W.Frag) : TS := tSeq (tIfS (tIsE K "BadFix") (tRet (tTold K "value" "fix")) tNext) (tSeq (tIfS (tIsE K "NoLine") (tRet (tTold K "line" "line")) tNext) (tSeq (tIfS (tIsE K "NoDay") (tRet (tTold K "day" "day")) tNext)
  (tRet (tIf (tIsE K "BadDeed") (tTold K "at" "deed") (tC (V.str "odd"))))))
section
variable {P : Program} {w : World} {K : PySem.W.Frag} {mg : Str → Option Value} {base : Heap}
def sixN : List (Str × List Str) := [("BadFix", bT), ("NoLine", bT), ("NoDay", bT), ("BadDeed", bT)]
theorem six_in {q : Str × List Str} (h : q ∈ sixN) : q ∈ errsN := by
  have z : sixN.all (fun q => decide (q ∈ errsN)) = true := by decide +kernel
  exact of_decide_eq_true (List.all_eq_true.mp z q h)
theorem six_up {q : Str × List Str} (h : q ∈ sixN) : ∀ b ∈ q.2, ∃ bs, (b, bs) ∈ errsN := by
  have z : sixN.all (fun q => q.2.all fun b => errsN.any fun r => decide (r.1 = b)) = true := by decide +kernel
  intro b hb
  obtain ⟨r, hr, e⟩ := List.any_eq_true.mp (List.all_eq_true.mp (List.all_eq_true.mp z q h) b hb)
  exact ⟨r.2, by rw [← of_decide_eq_true e]; exact hr⟩
theorem six_no {q r : Str × List Str} (h : q ∈ sixN) (h2 : r ∈ sixN) : r.1 ∉ q.2 := by
  have z : sixN.all (fun q => sixN.all fun r => decide (r.1 ∉ q.2)) = true := by decide +kernel
  exact of_decide_eq_true (List.all_eq_true.mp (List.all_eq_true.mp z q h) r h2)
theorem six_kit (T : KF P w K mg base) {q r : Str × List Str} (hq : q ∈ sixN) (hr : r ∈ sixN) : PySem.W.kitOne K (.ref (ga K q.1)) (.ref (ga K r.1)) = some (decide (q = r)) := by
  by_cases e : q = r
  · rw [decide_eq_true e, e]
    exact kit_yes T (six_in hr)
  · rw [decide_eq_false e]
    exact kit_no T (six_in hq) (six_in hr) (fun z => e z.symm) (six_no hq hr) (six_up hq)
theorem six_test (T : KF P w K mg base) {σ : L2.St} {H : Hp} {a dd : Addr} {fs : List (Str × V)} {q r : Str × List Str} (h1 : σ[1]? = some (some (.ref a))) (hq : q ∈ sixN) (hr : r ∈ sixN) (R : ErF H a (ga K q.1) dd fs) : TestR (tIsE K r.1) σ H (decide (q = r)) := fun H1 s1 F k =>
  ⟨_, h1, a, ga K q.1, dd, fs, _, .ref (ga K r.1), _, rfl, ⟨s1 _ _ R.ob, s1 _ _ R.dc⟩, (T.ek q (six_in hq)).ex, .own _, six_kit T hq hr, _, rfl, k H1 fun _ _ e => e⟩
theorem six_fld (T : KF P w K mg base) {σ : L2.St} {H : Hp} {a dd : Addr} {fs : List (Str × V)} {q : Str × List Str} {f : Str} {v : V} (h1 : σ[1]? = some (some (.ref a))) (hq : q ∈ sixN) (R : ErF H a (ga K q.1) dd fs) (no : PySem.W.findIn K (.ref (ga K q.1)) f = some none) (hf : fs.lookup f = some v) :
    ER (tFF K (tVar 1) f) σ H (IsV v) := fun H1 s1 F k => ⟨_, h1, a, _, dd, fs, v, rfl, ⟨s1 _ _ R.ob, s1 _ _ R.dc⟩, (T.ek q (six_in hq)).xf, no, hf, k _ H1 (fun _ _ e => e) rfl⟩
theorem er_ret {σ : L2.St} {H : Hp} {D : Ends} {te : TE} {R : V → Hp → Prop} (h : ER te σ H R) (k : ∀ v H', Same H H' → R v H' → D.rt v H') : tRet te D σ H := h.go k
theorem erF_same {H H' : Hp} {a C d : Addr} {fs : List (Str × V)} (R : ErF H a C d fs) (s : Same H H') : ErF H' a C d fs := ⟨s _ _ R.ob, s _ _ R.dc⟩
theorem er_told (T : KF P w K mg base) {σ : L2.St} {H : Hp} {a dd : Addr} {q : Str × List Str} {f tag : Str} {v : V} {d : PyData} (h1 : σ[1]? = some (some (.ref a))) (hq : q ∈ sixN) (R : ErF H a (ga K q.1) dd [(f, v)]) (no : PySem.W.findIn K (.ref (ga K q.1)) f = some none) (o : Odd H v d) (hb : repB d = true) :
    ER (tTold K f tag) σ H (fun v H' => ∃ t, v = .ref t ∧ H' t = some (.tup [.str tag, .str d.shown])) :=
  er_any2 er_c ((six_fld (v := v) (f := f) T h1 hq R no (by simp [List.lookup])).cb fun x H1 F s e k => ⟨v, d, by rw [show x = v from e], (o.same s).dat, hb, k _ H1 (fun _ _ e => e) rfl⟩)
variable {σ : L2.St} {H : Hp} {D : Ends} {a dd : Addr} {fs : List (Str × V)} {v : V} {d : PyData}
theorem hr_no (T : KF P w K mg base) {q r : Str × List Str} {A : TS} (h1 : σ[1]? = some (some (.ref a))) (hq : q ∈ sixN) (hr : r ∈ sixN) (n : q ≠ r) (R : ErF H a (ga K q.1) dd fs) (k : ∀ H', Same H H' → D.nx σ H') : tIfS (tIsE K r.1) A tNext D σ H := by
  refine (six_test T h1 hq hr R).ifS (fun h => ?_) fun _ H' s => k H' s
  rw [decide_eq_false n] at h
  cases h
theorem hr_yes (T : KF P w K mg base) {q : Str × List Str} {A B : TS} (h1 : σ[1]? = some (some (.ref a))) (hq : q ∈ sixN) (R : ErF H a (ga K q.1) dd fs) (k : ∀ H', Same H H' → A D σ H') : tIfS (tIsE K q.1) A B D σ H := by
  refine (six_test T h1 hq hq R).ifS (fun _ H' s => k H' s) fun h => ?_
  rw [decide_eq_true rfl] at h
  cases h
theorem hr_read (T : KF P w K mg base) {Q : VK} {cls : Value} {d : Option Addr} {H1 : Hp} (h1 : σ[1]? = some (some (.ref a))) (na : H1 a = none) (eH : H = upd H1 a (ExF cls d a)) (e : ErrH K Q cls d H1) (hD : D.rt = Q) : tHr K D σ H := by
  subst eH
  subst hD
  obtain ⟨q, hq, v, d0, dd, rfl, rfl, hd, o, hb, k⟩ := e
  have s0 : Same H1 (upd H1 a (ExF (.ref (ga K q.1)) (some dd) a)) := same_new na
  have R : ErF (upd H1 a (ExF (.ref (ga K q.1)) (some dd) a)) a (ga K q.1) dd [(q.2.1, v)] := ⟨upd_same, by rw [upd_ne (ne_of_none hd na)]; exact hd⟩
  have o := o.same s0
  unfold fourN at hq
  have i1 : (("BadFix", bT) : Str × List Str) ∈ sixN := by decide
  have i2 : (("NoLine", bT) : Str × List Str) ∈ sixN := by decide
  have i3 : (("NoDay", bT) : Str × List Str) ∈ sixN := by decide
  have i4 : (("BadDeed", bT) : Str × List Str) ∈ sixN := by decide
  simp only [List.mem_cons, List.not_mem_nil, or_false] at hq
  rcases hq with rfl | rfl | rfl | rfl
  · refine hr_yes T (q := ("BadFix", bT)) h1 i1 R fun H2 s2 => ?_
    exact er_ret (er_told T (q := ("BadFix", bT)) h1 i1 (erF_same R s2) T.bf.no (o.same s2) hb) fun x H3 s3 ⟨t, e, ht⟩ => by rw [e]; exact k t H3 (s0.trans (s2.trans s3)) ht
  · refine hr_no T (q := ("NoLine", bT)) (r := ("BadFix", bT)) h1 i2 i1 (by decide) R fun H2 s2 => ?_
    refine hr_yes T (q := ("NoLine", bT)) h1 i2 (erF_same R s2) fun H3 s3 => ?_
    have s23 := s2.trans s3
    exact er_ret (er_told T (q := ("NoLine", bT)) h1 i2 (erF_same R s23) T.nl.no (o.same s23) hb) fun x H4 s4 ⟨t, e, ht⟩ => by rw [e]; exact k t H4 (s0.trans (s23.trans s4)) ht
  · refine hr_no T (q := ("NoDay", bT)) (r := ("BadFix", bT)) h1 i3 i1 (by decide) R fun H2 s2 => ?_
    refine hr_no T (q := ("NoDay", bT)) (r := ("NoLine", bT)) h1 i3 i2 (by decide) (erF_same R s2) fun H3 s3 => ?_
    have s23 := s2.trans s3
    refine hr_yes T (q := ("NoDay", bT)) h1 i3 (erF_same R s23) fun H4 s4 => ?_
    have s24 := s23.trans s4
    exact er_ret (er_told T (q := ("NoDay", bT)) h1 i3 (erF_same R s24) T.nd.no (o.same s24) hb) fun x H5 s5 ⟨t, e, ht⟩ => by rw [e]; exact k t H5 (s0.trans (s24.trans s5)) ht
  · refine hr_no T (q := ("BadDeed", bT)) (r := ("BadFix", bT)) h1 i4 i1 (by decide) R fun H2 s2 => ?_
    refine hr_no T (q := ("BadDeed", bT)) (r := ("NoLine", bT)) h1 i4 i2 (by decide) (erF_same R s2) fun H3 s3 => ?_
    have s23 := s2.trans s3
    refine hr_no T (q := ("BadDeed", bT)) (r := ("NoDay", bT)) h1 i4 i3 (by decide) (erF_same R s23) fun H4 s4 => ?_
    have s24 := s23.trans s4
    have r := er_if (tt := tIsE K "BadDeed") (ta := tTold K "at" "deed") (tb := tC (V.str "odd")) (R := fun w H' => ∃ t, w = .ref t ∧ H' t = some (.tup [.str "deed", .str d0.shown])) (six_test T (q := ("BadDeed", bT)) (r := ("BadDeed", bT)) h1 i4 i4 (erF_same R s24))
      (fun _ => er_told T (q := ("BadDeed", bT)) h1 i4 (erF_same R s24) T.bd.no (o.same s24) hb) fun h => by rw [decide_eq_true rfl] at h; cases h
    exact er_ret r fun x H5 s5 ⟨t, e, ht⟩ => by rw [e]; exact k t H5 (s0.trans (s24.trans s5)) ht
end
theorem heard_gives {X : Cx} {q : Str} {f19 : Addr} {cdg : Value} (T : KF X.prog X.w X.K X.mg X.base) (hR : Room 6 X.A)
    (hrep : ∀ (s : Shared) (H : Hp), CallR (cxOf C8.CX0 X.prog X.w X.K X.mg X.base scHd_N "_law_heard" (defScope sHeard) f19 cdg X.A X.stack s H C8.E0).nox (.builtin "repr") rRepX) :
    GivesTo X scHd_N "_law_heard" (defScope sHeard) f19 cdg (defBody sHeard) "_law_ask" q (TTh X.K) := by
  intro f c' s H Q tl act hc h
  refine ⟨_, pss_cons (ps_set (i := 1) scHd.nd rfl (.inl rfl) pe_non) (pss_cons (ps_try_hold (X := (cxOf C8.CX0 X.prog X.w X.K X.mg X.base scHd_N "_law_heard" (defScope sHeard) f19 cdg X.A X.stack s H C8.E0).nox) (c := .ref (ga X.K "EditionError")) (i := 2)
      (tb := fun W D σ H => ∃ Ech : XK, (∀ cls d σ' H', σ'.length = scHd_N.length → Ech cls d H' → W cls d σ' H') ∧ σ[0]? = some (some (.ref f)) ∧ H c' = some (CodeO c' q) ∧ tl Ech H fun v H1 => D.nx σ H1)
      rfl rfl scHd.nd rfl rfl ⟨by rfl, by decide, .inl (T.gl ("EditionError", []) (by decide))⟩ rfl L2.takes0 (fun W pn xe tk _ => ?_) (fun a oe cls d pn _ _ => pss_one (ps_set (i := 1) scHd.nd rfl (.inl rfl) (pv 2))))
    (pss_cons (ps_if (pt_cmp (pc_isN (pv 1))) (pss_one (ps_ret pe_str)) pss_nil)
    (pss_cons (ps_if (pt_val (pe_callB call_isF (by rfl) (T.fr "isinstance" (by decide)) PyProof.Rows.boot_isinstance (pa_cons (pv 1) (pa_cons (pe_glob (v := .ref (ga X.K "BadFix")) (by rfl) T.bf.gl rfl) pa_nil))))
      (pss_one (ps_ret (pe_tup (pa_cons pe_str (pa_cons (pe_callB (hrep s H) (by rfl) (T.fr "repr" (by decide)) PyProof.Rows.boot_repr (pa_cons (pe_ff (pv 1)) pa_nil)) pa_nil))))) pss_nil)
    (pss_cons (ps_if (pt_val (pe_callB call_isF (by rfl) (T.fr "isinstance" (by decide)) PyProof.Rows.boot_isinstance (pa_cons (pv 1) (pa_cons (pe_glob (v := .ref (ga X.K "NoLine")) (by rfl) T.nl.gl rfl) pa_nil))))
      (pss_one (ps_ret (pe_tup (pa_cons pe_str (pa_cons (pe_callB (hrep s H) (by rfl) (T.fr "repr" (by decide)) PyProof.Rows.boot_repr (pa_cons (pe_ff (pv 1)) pa_nil)) pa_nil))))) pss_nil)
    (pss_cons (ps_if (pt_val (pe_callB call_isF (by rfl) (T.fr "isinstance" (by decide)) PyProof.Rows.boot_isinstance (pa_cons (pv 1) (pa_cons (pe_glob (v := .ref (ga X.K "NoDay")) (by rfl) T.nd.gl rfl) pa_nil))))
      (pss_one (ps_ret (pe_tup (pa_cons pe_str (pa_cons (pe_callB (hrep s H) (by rfl) (T.fr "repr" (by decide)) PyProof.Rows.boot_repr (pa_cons (pe_ff (pv 1)) pa_nil)) pa_nil))))) pss_nil)
    (pss_one (ps_ret (pe_ifExp (pt_val (pe_callB call_isF (by rfl) (T.fr "isinstance" (by decide)) PyProof.Rows.boot_isinstance (pa_cons (pv 1) (pa_cons (pe_glob (v := .ref (ga X.K "BadDeed")) (by rfl) T.bd.gl rfl) pa_nil))))
      (pe_tup (pa_cons pe_str (pa_cons (pe_callB (hrep s H) (by rfl) (T.fr "repr" (by decide)) PyProof.Rows.boot_repr (pa_cons (pe_ff (pv 1)) pa_nil)) pa_nil))) pe_str))))))))  , ?_⟩
  · refine pss_of fun D σ H' h' => ?_
    obtain ⟨Ech, hW, h1, h2, h3⟩ := h'
    exact ⟨_, pss_one (ps_expr (act _ pn xe Ech _ _ (takes_len tk) fun cls d σ' H' e hl => hW cls d σ' H' hl e)), h1, h2, h3⟩
  · refine ⟨ErrH X.K Q, fun cls d σ' H' hl e => ?_, rfl, hc, ?_⟩
    · have hl : σ'.length = 3 := hl
      have six : ∃ q ∈ sixN, cls = .ref (ga X.K q.1) := by
        obtain ⟨q, hq, v, d0, dd, ec, _⟩ := e
        have z : fourN.all (fun q => decide ((q.1, bT) ∈ sixN)) = true := by decide +kernel
        exact ⟨(q.1, bT), of_decide_eq_true (List.all_eq_true.mp z q hq), ec⟩
      obtain ⟨q, hq, ec⟩ := six
      refine ⟨true, by rw [ec]; exact T.xE q (six_in hq), (fun z => nomatch z), fun _ a na => ?_⟩
      have g1 : (((σ'.set 2 (some (V.ref a))).set 1 (some (V.ref a))).set 2 none)[1]? = some (some (V.ref a)) := by simp [List.getElem?_set, hl]
      refine ⟨.ref a, by simp [List.getElem?_set, hl], ?_⟩
      refine ⟨.ref a, g1, _, rfl, if_negB rfl ?_⟩
      exact hr_read T g1 na rfl e rfl
    · refine (congrArg (tl (ErrH X.K Q) H) (funext fun v => funext fun H1 => propext ?_)).mpr h
      constructor
      · rintro ⟨x, hx, c, hc, h⟩
        obtain rfl : V.non = x := Option.some.inj (Option.some.inj hx)
        obtain rfl : true = c := V.bl.inj hc
        have h2 := (if_pos rfl).mp h
        exact h2
      · intro h
        exact ⟨.non, rfl, true, rfl, if_posB rfl h⟩
end K9
set_option Elab.async false
set_option linter.all false
set_option maxRecDepth 100000
set_option maxHeartbeats 2000000
/-! A def that is only called where no repr is under way. -/
namespace Gd
open PySem PySem.Spec PyProof.Rows L2
structure FnG (P : Program) (w : World) (K : PySem.W.Frag) (mg : Str → Option Value) (base : Heap) (C : CXT) (k : Nat) (f : Addr) (fd : FuncData) (ps : List Str) (sp : Sp) : Prop where
  len : ∀ vs H Q E, sp vs H Q E → vs.length = ps.length
  go : ∀ (B : Around) (out : List Env) (t : Shared) (H : Hp) (as : Args) (us : List Value) (vs : List V) (Q : VK) (E : XK), B.guards = some [] → Room k B → Env0 P w K mg base B out t H →
    BindsTo t fd as (ps.zip us) → Vals vs us → sp vs H Q E → codeAny (model P w) B (.call (.ref f) as) (CR C out P w H t Q E) t
section
variable {CX : CXT} {P : Program} {w : World} {K : PySem.W.Frag} {mg : Str → Option Value} {base : Heap} {x qual : Str} {pm0 : Arguments} {body : List Stmt} {scope : Scope} {dvs : List V} {kws : List (Str × V)} {f : Addr} {fd : FuncData} {N ps : List Str} {k : Nat} {sp : Sp}
theorem ofD (D : FunD K x qual pm0 body scope dvs kws f fd) (S : FnScope N ps scope) (len : ∀ vs H Q E, sp vs H Q E → vs.length = ps.length)
    (hbody : ∀ (cdv : Value) (B : Around) (out : List Env) (t : Shared) (H : Hp) (vs : List V) (Q : VK) (E : XK), B.guards = some [] → Room k (B.deeper (envOfC qual scope t.heap.objs.size f cdv)) → sp vs H Q E →
      ∃ r, PSs (cxOf CX P w K mg base N qual scope f cdv B out t H E) body r ∧ r { nx := fun _ H' => Q .non H', rt := Q } (start N vs) H) : FnG P w K mg base CX (k + 1) f fd ps sp := by
  obtain ⟨oc, od, dV, kV, doc, pm, an, cdv, ct, osl, rfl, lk, hcd, _, _⟩ := D.ex
  refine ⟨len, fun B out t H as us vs Q E hG hR e0 hb r hsp => ?_⟩
  have KX : K.In t.heap := e0.mod.kin.keeps fun b o e => (e0.bs b o e).1
  have lim : t.heap.NoLimit := e0.mod.nolimit.keeps fun b o e => (e0.bs b o e).1
  have hkd : ∀ q ∈ ps.zip us, scope.names.lookup q.1 = some .local ∨ (scope.names.lookup q.1 = some .cell ∧ ((cellsFrom (t.heap.objs.size + 1) scope.names []).lookup q.1).isSome = true) := fun ⟨n, v⟩ hq => by
    rcases S.par n (List.of_mem_zip hq).1 with i | i
    · exact .inl i
    · exact .inr ⟨i, PySem.W.cellsFrom_some _ _ _ (.inl i)⟩
  refine codeAny_call_function hR.depth (KX _ _ lk) rfl S.co S.gen rfl (PySem.W.codeRec_of KX hcd) (hb _ _ _ _ ?_)
  refine wpAny_newFunctionEnv_cells S.kind hkd fun ev he t1 X => ?_
  subst he
  refine ⟨lim.keeps X.toInCall.keep, codeAny_func ?_⟩
  obtain ⟨r0, h0, hq⟩ := hbody cdv B out t H vs Q E hG (hR.deeper _) hsp
  refine wpAny_mono (h0.run [] t1 (start N vs) H _ (inv_start S hR.hd e0 (len _ _ _ _ hsp) r X) hq) (fun fl t2 hs => ?_) fun e t2 hs => hs
  cases fl with
  | ret u => exact let ⟨v, _, H', J, rv, q⟩ := hs; ⟨v, H', J.os, J.bare, J.base, J.hok, rv, q⟩
  | next => exact let ⟨_, H', J, q⟩ := hs; ⟨V.non, H', J.os, J.bare, J.base, J.hok, (rfl : Value.none = Value.none), q⟩
  | brk => exact let ⟨_, _, _, q⟩ := hs; False.elim q
  | cont => exact let ⟨_, _, _, q⟩ := hs; False.elim q
end
section
variable {X : Cx} {CX : CXT} {k : Nat} {f : Addr} {fd : FuncData} {ps : List Str} {sp : Sp} {E : XK} {x : Str} {p pos : Pos} {e : Expr} {es : List Expr} {t : TA}
theorem pe_callG (F : FnG X.prog X.w X.K X.mg X.base CX k f fd ps sp) (hR : Room k X.A) (hG : X.A.guards = some []) (hg : Gl X x) (hm : X.mg x = some (.ref f)) (hk : PySem.W.keepIn X.K (.ref f) = true) (hb : Binds X.K fd ps []) (hx : Passes CX X E)
    (ha : PA X (e :: es) t) (hdb : (x == ("__debug__" : Str)) = false := by decide) (he : starEach (e :: es) X.env = (false, eval e X.env) :: starEach es X.env := by rfl) (hpl : (backTo pos (starEach es X.env)).any (·.1) = false := by rfl) :
    PE X (.Call (.Name x p) (e :: es) [] pos) (tCall sp [] E t) := by
  refine ⟨fun pins s σ H Q I h => wpAny_Call_Name_kw (ld_glob I hg hm ?_ hdb)⟩
  refine PySem.W.callWith_K (h₀ := X.base) I.ok.mod.kin hk (thn (ha.run pos pins s σ H _ I h) fun us s1 ⟨vs, H1, I1, r, q⟩ => ⟨I1.kIn, ?_⟩) he hpl
  have r2 : Vals (vs ++ []) (us ++ []) := r.append .nil
  have hl : (us ++ []).length = ps.length := by rw [← r2.length]; exact F.len _ _ _ _ q
  refine wpAny_call (codeAny_mono (F.go X.A X.stack s1 H1 ⟨us, []⟩ (us ++ []) (vs ++ []) Q E hG hR I1.env0 (hb s1 us I1.kIn hl) r2 q) fun z s' hz => ?_)
  match z, hz with
  | .error e, hz => exact hx pins σ H1 s1 e s' I1 hz
  | .ok (.ret u), hz => exact I1.after hz
end
/-- the head's end -/
theorem law_callG {P : Program} {w : World} {K : PySem.W.Frag} {mg mb : Str → Option Value} {k : Nat} {f a : Addr} {fd : FuncData} {x : Str} {sp : Sp} {t : Shared} {us : List Value} {ns : List Int}
    (KX : K.In t.heap) (gM : t.heap.Ns mainGlobals mg) (gB : t.heap.Ns builtinsNs mb) (gb : ∀ x : Str, x ≠ "__name__" → mb x = bootBuiltins x) (lim : t.heap.NoLimit) (hg : t.gens = #[])
    (ha : t.heap.get? a = some { cls := .type "list", data := .seq us.toArray }) (hi : IntsAre us ns) (hl : ns.length ≤ sizeLine) (hR : Room k callerA)
    (F : ∀ base : Heap, K.In base → base.Ns mainGlobals mg → FnG P w K mg base CX0 k f fd [x] sp) (hbind : ∀ (s : Shared) (u : Value), BindsTo s fd ⟨[u], []⟩ [(x, u)])
    (hsp : ∀ H : Hp, Only H → SqL K H a (ns.map V.int) → sp [.ref a] H (fun v _ => v = .bl true) fun _ _ _ => False)
    (hX : ∀ H e s', CX0 [] H t (fun _ _ _ => False) e s' → False) :
    codeAny (model P w) callerA (.call (.ref f) ⟨[.ref a], []⟩) (fun r s' => r = .ok (.ret (.bool true)) ∧ OldK t.heap s'.heap ∧ s'.os = t.os ∧ AllBare s'.gens) t := by
  suffices main : ∃ H : Hp, Only H ∧ SqL K H a (ns.map V.int) ∧ HOk P w H t.heap ∧ (∀ b, H b ≠ none → b = a) ∧ (H a ≠ none → K.lookup a = none) by
    obtain ⟨H, hO, hS, hok, hA, hK⟩ := main
    have hid : ∀ {b : Addr} {o : Obj}, t.heap.get? b = some o → H b = none → (hidT t.heap H).get? b = some o := fun i n => hidT_get i n
    have hns : ∀ {b : Addr} {m : Str → Option Value}, t.heap.Ns b m → (hidT t.heap H).Ns b m := fun {b m} ⟨o, es, ep, i, d, r⟩ => ⟨o, es, ep, hid i (by
      by_cases q : H b = none
      · exact q
      · cases hA b q
        rw [ha] at i
        cases i
        exact nomatch (show Data.seq us.toArray _ = Data.dict es ep from d)), d, r⟩
    have KH : K.In (hidT t.heap H) := fun b o i => hid (KX b o i) (by
      by_cases q : H b = none
      · exact q
      · cases hA b q
        rw [hK q] at i
        cases i)
    have e0 : Env0 P w K mg (hidT t.heap H) callerA [] t H :=
      ⟨rfl, ⟨KH, hns gM, ⟨mb, hns gB, gb⟩, let ⟨m, i, j⟩ := lim; ⟨m, hns i, j⟩⟩, fun b o i => of_hidT i, Nat.le_of_eq (hidT_size _ _), trivial, fun b i => absurd (show b ∈ ([] : List Addr) from i) (by simp), hok, .of_eq hg⟩
    refine codeAny_mono ((F _ KH (hns gM)).go callerA [] t H ⟨[.ref a], []⟩ [.ref a] [.ref a] _ _ rfl hR e0 (hbind t (.ref a)) (.cons rfl .nil) (hsp H hO hS)) fun r s' h => ?_
    match r, h with
    | .error e, h => exact (hX H e s' h).elim
    | .ok (.ret u), h =>
      obtain ⟨v, H', os, bare, un, hok', r', q⟩ := h
      cases (show v = V.bl true from q)
      cases (show u = Value.bool true from r')
      refine ⟨rfl, OldK.of_keep fun b o i => ?_, os, bare⟩
      rcases hO b with q | ⟨ob, xs, q⟩
      · exact un.keep b o i q (by intro z; exact absurd (show b ∈ ([] : List Addr) from z) (by simp)) (by simp)
      · obtain ⟨i1, _⟩ := hok b _ q
        obtain ⟨i2, _⟩ := hok' b _ (un.frzs b ob _ q)
        rw [i] at i1
        cases i1
        exact i2
  by_cases hk : K.lookup a = none
  · refine ⟨fun b => if b = a then some (.frz { cls := .type "list", data := .seq us.toArray } (.lst (ns.map V.int))) else none, fun b => ?_, .inl (.inr ⟨{ cls := .type "list", data := .seq us.toArray }, if_pos rfl⟩), fun b u i => ?_, fun b i => ?_, fun _ => hk⟩
    · by_cases hb : b = a
      · exact .inr ⟨_, _, if_pos hb⟩
      · exact .inl (if_neg hb)
    · by_cases hb : b = a
      · cases (if_pos hb).symm.trans i
        subst hb
        exact ⟨ha, by rw [List.length_map]; exact hl, us, _, vals_ints hi, ha⟩
      · cases (if_neg hb).symm.trans i
    · by_cases hb : b = a
      · exact hb
      · exact absurd (if_neg hb) i
  · obtain ⟨o, ho⟩ : ∃ o, K.lookup a = some o := by
      cases e : K.lookup a with
      | none => exact absurd e hk
      | some o => exact ⟨o, rfl⟩
    have i := KX a o ho
    rw [ha] at i
    cases i
    exact ⟨fun _ => none, fun _ => .inl rfl, .inr ⟨_, us.toArray, _, ho, rfl, rfl, rfl, by rw [List.size_toArray, hi.length]; exact hl, by simpa using vals_ints hi⟩, fun b u z => (nomatch (show (none : Option HO) = some u from z)), fun b z => absurd rfl z, fun z => absurd rfl z⟩
theorem walkG {l : PySem.W.OpenLaw} {n k : Nat} {q : Program} {loose : List Str} {XP : (Str → Option Value) → Heap → Prop} {YP : World → Heap → Prop} {d : DefRec} {x : Str}
    (hn : l.most = some n) (hn2 : n ≤ sizeLine) (hdf : d.params.defaults = []) (hR : Room k callerA)
    (F : ∀ (w : World) (mg : Str → Option Value) (fa : Addr) (h : Heap), YP w h → h.Ns mainGlobals mg → mg d.name = some (.ref fa) →
      ∃ (K : PySem.W.Frag) (fd : FuncData) (sp : Sp), K.In h ∧ (∀ (s : Shared) (u : Value), BindsTo s fd ⟨[u], []⟩ [(x, u)]) ∧
        (∀ (H : Hp) (a : Addr) (ns : List Int), ns.length ≤ n → Only H → SqL K H a (ns.map V.int) → sp [.ref a] H (fun v _ => v = .bl true) fun _ _ _ => False) ∧
        ∀ base : Heap, K.In base → base.Ns mainGlobals mg → FnG l.prog w K mg base CX0 k fa fd [x] sp)
    (hX : ∀ (H : Hp) (s : Shared) (e : Value) (s' : Shared), CX0 [] H s (fun _ _ _ => False) e s' → False) :
    PySem.W.WalkO q loose XP YP l.row.toRowW d [] (fun f vs => PySem.call f vs) := by
  refine Att.attach_call hn hdf fun w s₀ s₁ mg mb fa o pm cd doc a vs ns G Y ho hd hcd hmg hobj hints hlen hg => ?_
  obtain ⟨K, fd, sp, KX, hb, hsp, hF⟩ := F w mg fa _ Y G.T.g hmg
  exact law_callG KX G.T.g G.T.b G.T.builtins G.T.nolimit hg hobj hints (Nat.le_trans hlen hn2) hR hF hb (fun H hO hS => hsp H a ns hlen hO hS) fun H e s' => hX H s₁ e s'
end Gd
set_option Elab.async false
set_option linter.all false
set_option maxRecDepth 100000
set_option maxHeartbeats 1000000
/-! The deeds' classes as called; _law_heard as called. -/
namespace K9
open PySem PySem.Spec PyProof.Rows L2 RV EV He EF EI Hd LamX NdefX
theorem same_obj {H : Hp} {x dx : Addr} {o1 o2 : HO} (hx : H x = none) (hd : H dx = none) : Same H (upd (upd H dx o1) x o2) := fun c u e => by
  rw [upd_ne (ne_of_none e hx), upd_ne (ne_of_none e hd)]
  exact e
theorem same_made {H H' : Hp} {x dx : Addr} {o1 o2 : HO} (hx : H x = none) (hd : H dx = none) (s : Same2 (upd (upd H dx o1) x o2) H' x) : Same H H' := fun c u e => by
  refine s c u (ne_of_none e hx) ?_
  rw [upd_ne (ne_of_none e hx), upd_ne (ne_of_none e hd)]
  exact e
/-- what comes of a call that makes a deed -/
def OutE (K : PySem.W.Frag) (o : Option Err) (H : Hp) (E : XK) (Q : VK) : Prop := match o with
  | none => ∀ v H', Same H H' → Q v H'
  | some e => ∀ H', Same H H' → Bad1 (ga K e.1) e.2.1 H' E e.2.2
theorem OutE.same {K : PySem.W.Frag} {o : Option Err} {H H1 : Hp} {E : XK} {Q : VK} (c : OutE K o H E Q) (s : Same H H1) : OutE K o H1 E Q := by
  cases o with
  | none => exact fun v H2 s2 => c v H2 (s.trans s2)
  | some e => exact fun H2 s2 => c H2 (s.trans s2)
section
variable {K : PySem.W.Frag} {C : Addr} {n : Nat} {oc : List V → Option Err} {fl : List V → List (Str × V)} {H : Hp} {E : XK} {Q : VK} {as : List V}
theorem mk_out (hl : as.length = n) (ao : AllOdd H as) (k : OutE K (oc as) H E Q) : ∀ x dx, H x = none → H dx = none → dx ≠ x → spMk K C n oc fl (.ref x :: as) (upd (upd H dx (.own x)) x (.ins C dx [])) (fun v H3 => v = .non ∧ Q (.ref x) H3) E := by
  intro x dx nx nd _
  refine ⟨x, dx, as, rfl, hl, upd_same, ao.ext (Same.extN (same_obj nx nd)), ?_⟩
  cases o : oc as with
  | none =>
    rw [o] at k
    exact fun H' s e => ⟨rfl, k (.ref x) H' (same_made nx nd s)⟩
  | some e =>
    rw [o] at k
    exact fun H' s => k H' (same_made nx nd s)
theorem mks_out {ocs : V → List V → Option Err} {f g : Str} {u : V} (hz : as.length ≤ sizeLine) (uo : ∃ d, Odd H u d) (ao : AllOdd H as) (k : OutE K (ocs u as) H E Q) : Sk.wSK C (Sk.spSK (spMkS K C ocs f g)) E as u H Q := by
  intro x dx nx nd _
  refine ⟨.ref x, as, rfl, hz, fun p np => ?_⟩
  have s0 : Same H (upd (upd H dx (.own x)) x (.ins C dx [])) := same_obj nx nd
  have s1 : Same (upd (upd H dx (.own x)) x (.ins C dx [])) (upd (upd (upd H dx (.own x)) x (.ins C dx [])) p (.tup as)) := same_new np
  have nep : p ≠ x := fun e => by rw [e, upd_same] at np; cases np
  obtain ⟨d, o⟩ := uo
  refine ⟨x, dx, u, p, as, rfl, by rw [upd_ne (Ne.symm nep)]; exact upd_same, upd_same, ⟨d, (o.same s0).same s1⟩, ao.ext (Same.extN (s0.trans s1)), ?_⟩
  have back : ∀ {H'}, Same2 (upd (upd (upd H dx (.own x)) x (.ins C dx [])) p (.tup as)) H' x → Same H H' := fun {H'} s c v e => by
    refine s c v (ne_of_none e nx) ?_
    exact (s0.trans s1) _ _ e
  cases oo : ocs u as with
  | none =>
    rw [oo] at k
    exact fun H' s e => ⟨rfl, k (.ref x) H' (back s)⟩
  | some e =>
    rw [oo] at k
    exact fun H' s => k H' (back s)
end
def sel {α : Type} (perm : List Nat) (l : List α) : List α := perm.filterMap fun i => l[i]?
abbrev gDr : List V → List V → List V := fun vs zs => vs ++ sel [1, 0] zs
section
variable {P : Program} {w : World} {K : PySem.W.Frag} {mg : Str → Option Value} {base : Heap}
abbrev ocFix : List V → Option Err := oc1 fun v => (ckFix v)
abbrev flFix : List V → List (Str × V) := fun as => match as with | [v] => [("fix", v)] | _ => []
abbrev spDFix (K : PySem.W.Frag) : Sp := spMk K (ga K "Fix") 1 ocFix flFix
theorem m_Fix (T : KF P w K mg base) : ∃ fd, FnOk P w K mg base (L2.CX P w) 5 (ma K (ga K "Fix") "__init__") fd ["self", "fix"] (spDFix K) ∧ L2.Binds K fd ["self", "fix"] [] ∧ Mk K (ga K "Fix") (ma K (ga K "Fix") "__init__") ∧ mg "Fix" = some (.ref (ga K "Fix")) := by
  obtain ⟨fd, F⟩ := T.ik ("Fix", 43) (by decide)
  obtain ⟨g, _, m⟩ := T.gk ("Fix", 43) (by decide)
  exact ⟨fd, ok_Fix T F, FunD.bindsN F fun _ _ _ _ _ _ us hl => match us, hl with | [_, _], _ => rfl, m, g⟩
abbrev ocUnfix : List V → Option Err := oc1 fun v => (ckFix v)
abbrev flUnfix : List V → List (Str × V) := fun as => match as with | [v] => [("fix", v)] | _ => []
abbrev spDUnfix (K : PySem.W.Frag) : Sp := spMk K (ga K "Unfix") 1 ocUnfix flUnfix
theorem m_Unfix (T : KF P w K mg base) : ∃ fd, FnOk P w K mg base (L2.CX P w) 5 (ma K (ga K "Unfix") "__init__") fd ["self", "fix"] (spDUnfix K) ∧ L2.Binds K fd ["self", "fix"] [] ∧ Mk K (ga K "Unfix") (ma K (ga K "Unfix") "__init__") ∧ mg "Unfix" = some (.ref (ga K "Unfix")) := by
  obtain ⟨fd, F⟩ := T.ik ("Unfix", 44) (by decide)
  obtain ⟨g, _, m⟩ := T.gk ("Unfix", 44) (by decide)
  exact ⟨fd, ok_Unfix T F, FunD.bindsN F fun _ _ _ _ _ _ us hl => match us, hl with | [_, _], _ => rfl, m, g⟩
abbrev ocCarry : List V → Option Err := oc2 fun v u => (thenE (ckFix v) (ckLine 1 u))
abbrev flCarry : List V → List (Str × V) := fun as => match as with | [v, u] => [("fix", v), ("line", u)] | _ => []
abbrev spDCarry (K : PySem.W.Frag) : Sp := spMk K (ga K "Carry") 2 ocCarry flCarry
theorem m_Carry (T : KF P w K mg base) : ∃ fd, FnOk P w K mg base (L2.CX P w) 5 (ma K (ga K "Carry") "__init__") fd ["self", "fix", "line"] (spDCarry K) ∧ L2.Binds K fd ["self", "fix", "line"] [] ∧ Mk K (ga K "Carry") (ma K (ga K "Carry") "__init__") ∧ mg "Carry" = some (.ref (ga K "Carry")) := by
  obtain ⟨fd, F⟩ := T.ik ("Carry", 46) (by decide)
  obtain ⟨g, _, m⟩ := T.gk ("Carry", 46) (by decide)
  exact ⟨fd, ok_Carry T F, FunD.bindsN F fun _ _ _ _ _ _ us hl => match us, hl with | [_, _, _], _ => rfl, m, g⟩
abbrev ocDrop : List V → Option Err := oc2 fun v u => (thenE (ckFix v) (ckLine 1 u))
abbrev flDrop : List V → List (Str × V) := fun as => match as with | [v, u] => [("fix", v), ("line", u)] | _ => []
abbrev spDDrop (K : PySem.W.Frag) : Sp := spMk K (ga K "Drop") 2 ocDrop flDrop
theorem m_Drop (T : KF P w K mg base) : ∃ fd, FnOk P w K mg base (L2.CX P w) 5 (ma K (ga K "Drop") "__init__") fd ["self", "fix", "line"] (spDDrop K) ∧ L2.Binds K fd ["self", "fix", "line"] [] ∧ Mk K (ga K "Drop") (ma K (ga K "Drop") "__init__") ∧ mg "Drop" = some (.ref (ga K "Drop")) ∧ KBn K fd ["self", "fix", "line"] 1 ["line", "fix"] (fun us ws => us ++ sel [1, 0] ws) gDr := by
  obtain ⟨fd, F⟩ := T.ik ("Drop", 47) (by decide)
  obtain ⟨g, _, m⟩ := T.gk ("Drop", 47) (by decide)
  refine ⟨fd, ok_Drop T F, FunD.bindsN F fun _ _ _ _ _ _ us hl => match us, hl with | [_, _, _], _ => rfl, m, g, ⟨fun s us ws _ h1 h2 => ?_, fun r rz => ?_⟩⟩
  · obtain ⟨oc, od, dV, kV, doc, pm, an, cdv, ct, osl, rfl, lk, hcd, hD, hK⟩ := F.ex
    rcases hD with ⟨_, rfl⟩ | ⟨e, _⟩
    · match us, ws, h1, h2 with
      | [a], [b, c], _, _ => exact .of_eq rfl
    · exact absurd rfl e
  · refine r.append ?_
    cases rz with
    | nil => exact .nil
    | cons a rz =>
      cases rz with
      | nil => exact .cons a .nil
      | cons b rz => exact .cons b (.cons a .nil)
abbrev ocMerge : List V → Option Err := oc2 fun v u => (thenE (ckLine 1 v) (ckUp u))
abbrev flMerge : List V → List (Str × V) := fun as => match as with | [v, u] => [("line", v), ("upto", u)] | _ => []
abbrev spDMerge (K : PySem.W.Frag) : Sp := spMk K (ga K "Merge") 2 ocMerge flMerge
theorem m_Merge (T : KF P w K mg base) : ∃ fd, FnOk P w K mg base (L2.CX P w) 5 (ma K (ga K "Merge") "__init__") fd ["self", "line", "upto"] (spDMerge K) ∧ L2.Binds K fd ["self", "line", "upto"] [] ∧ Mk K (ga K "Merge") (ma K (ga K "Merge") "__init__") ∧ mg "Merge" = some (.ref (ga K "Merge")) := by
  obtain ⟨fd, F⟩ := T.ik ("Merge", 48) (by decide)
  obtain ⟨g, _, m⟩ := T.gk ("Merge", 48) (by decide)
  refine ⟨fd, ok_Merge T F, ?_, m, g⟩
  obtain ⟨ds, r, b⟩ := FunD.binds1 F (ps := ["self", "line", "upto"]) 3 1 (fun z => nomatch z) rfl fun T kV doc pm an cdv ct us its h1 h2 => match us, its, h1, h2 with
    | [_, _, _], [_], _, _ => ⟨_, rfl, rfl⟩
  cases r
  exact b
abbrev ocEnd : List V → Option Err := oc1 fun v => (ckLine 1 v)
abbrev flEnd : List V → List (Str × V) := fun as => match as with | [v] => [("line", v)] | _ => []
abbrev spDEnd (K : PySem.W.Frag) : Sp := spMk K (ga K "End") 1 ocEnd flEnd
theorem m_End (T : KF P w K mg base) : ∃ fd, FnOk P w K mg base (L2.CX P w) 5 (ma K (ga K "End") "__init__") fd ["self", "line"] (spDEnd K) ∧ L2.Binds K fd ["self", "line"] [] ∧ Mk K (ga K "End") (ma K (ga K "End") "__init__") ∧ mg "End" = some (.ref (ga K "End")) := by
  obtain ⟨fd, F⟩ := T.ik ("End", 49) (by decide)
  obtain ⟨g, _, m⟩ := T.gk ("End", 49) (by decide)
  exact ⟨fd, ok_End T F, FunD.bindsN F fun _ _ _ _ _ _ us hl => match us, hl with | [_, _], _ => rfl, m, g⟩
abbrev ocOffer : List V → Option Err := oc1 fun v => (ckLine 1 v)
abbrev flOffer : List V → List (Str × V) := fun as => match as with | [v] => [("line", v)] | _ => []
abbrev spDOffer (K : PySem.W.Frag) : Sp := spMk K (ga K "Offer") 1 ocOffer flOffer
theorem m_Offer (T : KF P w K mg base) : ∃ fd, FnOk P w K mg base (L2.CX P w) 5 (ma K (ga K "Offer") "__init__") fd ["self", "line"] (spDOffer K) ∧ L2.Binds K fd ["self", "line"] [] ∧ Mk K (ga K "Offer") (ma K (ga K "Offer") "__init__") ∧ mg "Offer" = some (.ref (ga K "Offer")) := by
  obtain ⟨fd, F⟩ := T.ik ("Offer", 50) (by decide)
  obtain ⟨g, _, m⟩ := T.gk ("Offer", 50) (by decide)
  exact ⟨fd, ok_Offer T F, FunD.bindsN F fun _ _ _ _ _ _ us hl => match us, hl with | [_, _], _ => rfl, m, g⟩
abbrev ocLive : List V → Option Err := oc1 fun v => (ckLine 1 v)
abbrev flLive : List V → List (Str × V) := fun as => match as with | [v] => [("line", v)] | _ => []
abbrev spDLive (K : PySem.W.Frag) : Sp := spMk K (ga K "Live") 1 ocLive flLive
theorem m_Live (T : KF P w K mg base) : ∃ fd, FnOk P w K mg base (L2.CX P w) 5 (ma K (ga K "Live") "__init__") fd ["self", "line"] (spDLive K) ∧ L2.Binds K fd ["self", "line"] [] ∧ Mk K (ga K "Live") (ma K (ga K "Live") "__init__") ∧ mg "Live" = some (.ref (ga K "Live")) := by
  obtain ⟨fd, F⟩ := T.ik ("Live", 51) (by decide)
  obtain ⟨g, _, m⟩ := T.gk ("Live", 51) (by decide)
  exact ⟨fd, ok_Live T F, FunD.bindsN F fun _ _ _ _ _ _ us hl => match us, hl with | [_, _], _ => rfl, m, g⟩
abbrev ocDown : List V → Option Err := oc1 fun v => (ckLine 1 v)
abbrev flDown : List V → List (Str × V) := fun as => match as with | [v] => [("line", v)] | _ => []
abbrev spDDown (K : PySem.W.Frag) : Sp := spMk K (ga K "Down") 1 ocDown flDown
theorem m_Down (T : KF P w K mg base) : ∃ fd, FnOk P w K mg base (L2.CX P w) 5 (ma K (ga K "Down") "__init__") fd ["self", "line"] (spDDown K) ∧ L2.Binds K fd ["self", "line"] [] ∧ Mk K (ga K "Down") (ma K (ga K "Down") "__init__") ∧ mg "Down" = some (.ref (ga K "Down")) := by
  obtain ⟨fd, F⟩ := T.ik ("Down", 52) (by decide)
  obtain ⟨g, _, m⟩ := T.gk ("Down", 52) (by decide)
  exact ⟨fd, ok_Down T F, FunD.bindsN F fun _ _ _ _ _ _ us hl => match us, hl with | [_, _], _ => rfl, m, g⟩
abbrev ocDay : List V → Option Err := oc1 fun v => (ckLine 1 v)
abbrev flDay : List V → List (Str × V) := fun as => match as with | [v] => [("line", v)] | _ => []
abbrev spDDay (K : PySem.W.Frag) : Sp := spMk K (ga K "Day") 1 ocDay flDay
theorem m_Day (T : KF P w K mg base) : ∃ fd, FnOk P w K mg base (L2.CX P w) 5 (ma K (ga K "Day") "__init__") fd ["self", "line"] (spDDay K) ∧ L2.Binds K fd ["self", "line"] [] ∧ Mk K (ga K "Day") (ma K (ga K "Day") "__init__") ∧ mg "Day" = some (.ref (ga K "Day")) := by
  obtain ⟨fd, F⟩ := T.ik ("Day", 53) (by decide)
  obtain ⟨g, _, m⟩ := T.gk ("Day", 53) (by decide)
  exact ⟨fd, ok_Day T F, FunD.bindsN F fun _ _ _ _ _ _ us hl => match us, hl with | [_, _], _ => rfl, m, g⟩
abbrev ocTry : List V → Option Err := oc2 fun v u => (thenE (ckLine 1 v) (ckLine (intV v + 1) u))
abbrev flTry : List V → List (Str × V) := fun as => match as with | [v, u] => [("line", v), ("mate", u)] | _ => []
abbrev spDTry (K : PySem.W.Frag) : Sp := spMk K (ga K "Try") 2 ocTry flTry
theorem m_Try (T : KF P w K mg base) : ∃ fd, FnOk P w K mg base (L2.CX P w) 5 (ma K (ga K "Try") "__init__") fd ["self", "line", "mate"] (spDTry K) ∧ L2.Binds K fd ["self", "line", "mate"] [] ∧ Mk K (ga K "Try") (ma K (ga K "Try") "__init__") ∧ mg "Try" = some (.ref (ga K "Try")) := by
  obtain ⟨fd, F⟩ := T.ik ("Try", 54) (by decide)
  obtain ⟨g, _, m⟩ := T.gk ("Try", 54) (by decide)
  exact ⟨fd, ok_Try T F, FunD.bindsN F fun _ _ _ _ _ _ us hl => match us, hl with | [_, _, _], _ => rfl, m, g⟩
abbrev ocProbe : List V → Option Err := oc2 fun v u => (thenE (ckLine 1 v) (ckMate (intV v) u))
abbrev flProbe : List V → List (Str × V) := fun as => match as with | [v, u] => [("line", v), ("mate", u)] | _ => []
abbrev spDProbe (K : PySem.W.Frag) : Sp := spMk K (ga K "Probe") 2 ocProbe flProbe
theorem m_Probe (T : KF P w K mg base) : ∃ fd, FnOk P w K mg base (L2.CX P w) 5 (ma K (ga K "Probe") "__init__") fd ["self", "line", "mate"] (spDProbe K) ∧ L2.Binds K fd ["self", "line", "mate"] [] ∧ Mk K (ga K "Probe") (ma K (ga K "Probe") "__init__") ∧ mg "Probe" = some (.ref (ga K "Probe")) := by
  obtain ⟨fd, F⟩ := T.ik ("Probe", 55) (by decide)
  obtain ⟨g, _, m⟩ := T.gk ("Probe", 55) (by decide)
  exact ⟨fd, ok_Probe T F, FunD.bindsN F fun _ _ _ _ _ _ us hl => match us, hl with | [_, _, _], _ => rfl, m, g⟩
abbrev ocMeet : List V → Option Err := oc2 fun v u => (thenE (ckLine 1 v) (ckLine (intV v + 1) u))
abbrev flMeet : List V → List (Str × V) := fun as => match as with | [v, u] => [("line", v), ("mate", u)] | _ => []
abbrev spDMeet (K : PySem.W.Frag) : Sp := spMk K (ga K "Meet") 2 ocMeet flMeet
theorem m_Meet (T : KF P w K mg base) : ∃ fd, FnOk P w K mg base (L2.CX P w) 5 (ma K (ga K "Meet") "__init__") fd ["self", "line", "mate"] (spDMeet K) ∧ L2.Binds K fd ["self", "line", "mate"] [] ∧ Mk K (ga K "Meet") (ma K (ga K "Meet") "__init__") ∧ mg "Meet" = some (.ref (ga K "Meet")) := by
  obtain ⟨fd, F⟩ := T.ik ("Meet", 56) (by decide)
  obtain ⟨g, _, m⟩ := T.gk ("Meet", 56) (by decide)
  exact ⟨fd, ok_Meet T F, FunD.bindsN F fun _ _ _ _ _ _ us hl => match us, hl with | [_, _, _], _ => rfl, m, g⟩
abbrev ocRedo : List V → Option Err := oc1 fun v => (ckDay 1 v)
abbrev flRedo : List V → List (Str × V) := fun as => match as with | [v] => [("day", v)] | _ => []
abbrev spDRedo (K : PySem.W.Frag) : Sp := spMk K (ga K "Redo") 1 ocRedo flRedo
theorem m_Redo (T : KF P w K mg base) : ∃ fd, FnOk P w K mg base (L2.CX P w) 5 (ma K (ga K "Redo") "__init__") fd ["self", "day"] (spDRedo K) ∧ L2.Binds K fd ["self", "day"] [] ∧ Mk K (ga K "Redo") (ma K (ga K "Redo") "__init__") ∧ mg "Redo" = some (.ref (ga K "Redo")) := by
  obtain ⟨fd, F⟩ := T.ik ("Redo", 59) (by decide)
  obtain ⟨g, _, m⟩ := T.gk ("Redo", 59) (by decide)
  exact ⟨fd, ok_Redo T F, FunD.bindsN F fun _ _ _ _ _ _ us hl => match us, hl with | [_, _], _ => rfl, m, g⟩
abbrev ocShut : List V → Option Err := oc1 fun v => (ckDay 1 v)
abbrev flShut : List V → List (Str × V) := fun as => match as with | [v] => [("day", v)] | _ => []
abbrev spDShut (K : PySem.W.Frag) : Sp := spMk K (ga K "Shut") 1 ocShut flShut
theorem m_Shut (T : KF P w K mg base) : ∃ fd, FnOk P w K mg base (L2.CX P w) 5 (ma K (ga K "Shut") "__init__") fd ["self", "day"] (spDShut K) ∧ L2.Binds K fd ["self", "day"] [] ∧ Mk K (ga K "Shut") (ma K (ga K "Shut") "__init__") ∧ mg "Shut" = some (.ref (ga K "Shut")) := by
  obtain ⟨fd, F⟩ := T.ik ("Shut", 61) (by decide)
  obtain ⟨g, _, m⟩ := T.gk ("Shut", 61) (by decide)
  exact ⟨fd, ok_Shut T F, FunD.bindsN F fun _ _ _ _ _ _ us hl => match us, hl with | [_, _], _ => rfl, m, g⟩
abbrev spDRise (K : PySem.W.Frag) : Sk.SpK := Sk.spSK (spMkS K (ga K "Rise") ocLines "lines" "upto")
theorem m_Rise (T : KF P w K mg base) : Sk.FnSK P w K mg base (L2.CX P w) 5 (ma K (ga K "Rise") "__init__") "upto" (spDRise K) ∧ Mk K (ga K "Rise") (ma K (ga K "Rise") "__init__") ∧ mg "Rise" = some (.ref (ga K "Rise")) := by
  obtain ⟨fd, F⟩ := T.ik ("Rise", 57) (by decide)
  obtain ⟨g, _, m⟩ := T.gk ("Rise", 57) (by decide)
  exact ⟨ok_Rise T F, m, g⟩
abbrev spDNight (K : PySem.W.Frag) : Sk.SpK := Sk.spSK (spMkS K (ga K "Night") ocLines "lines" "upto")
theorem m_Night (T : KF P w K mg base) : Sk.FnSK P w K mg base (L2.CX P w) 5 (ma K (ga K "Night") "__init__") "upto" (spDNight K) ∧ Mk K (ga K "Night") (ma K (ga K "Night") "__init__") ∧ mg "Night" = some (.ref (ga K "Night")) := by
  obtain ⟨fd, F⟩ := T.ik ("Night", 58) (by decide)
  obtain ⟨g, _, m⟩ := T.gk ("Night", 58) (by decide)
  exact ⟨ok_Night T F, m, g⟩
abbrev spDRenew (K : PySem.W.Frag) : Sk.SpK := Sk.spSK (spMkS K (ga K "Renew") ocDays "days" "upto")
theorem m_Renew (T : KF P w K mg base) : Sk.FnSK P w K mg base (L2.CX P w) 5 (ma K (ga K "Renew") "__init__") "upto" (spDRenew K) ∧ Mk K (ga K "Renew") (ma K (ga K "Renew") "__init__") ∧ mg "Renew" = some (.ref (ga K "Renew")) := by
  obtain ⟨fd, F⟩ := T.ik ("Renew", 60) (by decide)
  obtain ⟨g, _, m⟩ := T.gk ("Renew", 60) (by decide)
  exact ⟨ok_Renew T F, m, g⟩
end
/-! the tables of lambdas -/
def qOf (q : Str × Nat) : Str := (envOfC q.1 (defScope (top q.2)) 0 0 .none).qual ++ "<lambda>"
def cc (K : PySem.W.Frag) (q : Str × Nat) : Addr × Addr := cT K (q.1, none)
abbrev qOne : Str × Nat := ("_law_one_right", 67)
abbrev qMany : Str × Nat := ("_law_many_right", 68)
abbrev qLw : Str × Nat := ("law", 69)
def lamN : List (Str × Nat) := [("_law_one_right", 67), ("_law_many_right", 68), ("law", 69)]
def TL (K : PySem.W.Frag) : List (Addr × Str) := lamN.map fun q => ((cc K q).2, qOf q)
section
variable {P : Program} {w : World} {K : PySem.W.Frag} {mg : Str → Option Value} {base : Heap}
theorem tl_one (T : KF P w K mg base) {q : Str × Nat} (hq : q ∈ lamN) : ∀ p ∈ TL K, p.1 = (cc K q).2 → p.2 = qOf q := by
  intro p hp e
  obtain ⟨q', hq', rfl⟩ := List.mem_map.mp hp
  have nd : (lamN.map fun q => (cc K q).2).Nodup := T.tn
  rw [map_inj nd hq' hq e]
theorem tl_mem {q : Str × Nat} (hq : q ∈ lamN) : ((cc K q).2, qOf q) ∈ TL K := List.mem_map_of_mem (f := fun q => ((cc K q).2, qOf q)) hq
/-- what _law_heard's def is, where it stands -/
theorem heardF (T : KF P w K mg base) : ∃ oc od dV kV doc pm an cdv ct osl, K.lookup (ga K "_law_heard") = some ⟨oc, od, .func (PySem.W.fnOf "_law_heard" "_law_heard" (defArgs sHeard) (defBody sHeard) (defScope sHeard) dV kV doc pm an cdv ct), osl⟩ ∧
    PySem.W.codeIn K cdv "_law_heard" = true ∧ L2.Binds K (PySem.W.fnOf "_law_heard" "_law_heard" (defArgs sHeard) (defBody sHeard) (defScope sHeard) dV kV doc pm an cdv ct) ["_law_ask"] [] ∧ PySem.W.keepIn K (.ref (ga K "_law_heard")) = true ∧ mg "_law_heard" = some (.ref (ga K "_law_heard")) := by
  obtain ⟨fd, F, g⟩ := T.tops ("_law_heard", 66) (by decide)
  have b : L2.Binds K fd ["_law_ask"] [] := FunD.bindsN F fun _ _ _ _ _ _ us hl => match us, hl with | [_], _ => rfl
  obtain ⟨oc, od, dV, kV, doc, pm, an, cdv, ct, osl, rfl, lk, hcd, _, _⟩ := F.ex
  exact ⟨oc, od, dV, kV, doc, pm, an, cdv, ct, osl, lk, hcd, b, F.kp, g⟩
end
section
variable {X : Cx} {c : Addr × Addr} {k : Nat} {params : Arguments} {body : Expr} {scope : Scope} {t : XK → TE} {p lpos pos : Pos}
/-- _law_heard(lambda: body), where no repr is under way -/
theorem pe_heard (hG : X.A.guards = some []) (h4 : 4 ≤ k) (T : KF X.prog X.w X.K X.mg X.base) (TB : TabB X.base X.mg c.1 c.2) (hcode : X.env.code = .ref c.1)
    (hmT : (c.2, X.env.qual ++ "<lambda>") ∈ TL X.K) (hu : ∀ p ∈ TL X.K, p.1 = c.2 → p.2 = X.env.qual ++ "<lambda>") (hg : Gl X "_law_heard") (hr : Room (k + 2) X.A) (L : LamS X.env.scope scope) (hdef : defaultsOf params X.env = ([], []))
    (hbind : ∀ (q : Str) (cl : List (Str × Addr)) (pm cv ctv : Value), bindArgs (PySem.W.kla_fn "<lambda>" q params body scope cl pm cv ctv) ⟨[], []⟩ = pure [])
    (hbody : ∀ (A : Around) (outer : List Env) (s : Shared) (H : Hp) (E : XK) (f c' : Addr), Room k (A.deeper (lamEnv X scope s.heap.objs.size f c')) → PE (lamCx X A outer s H E scope f c') body (t E)) :
    PE X (.Call (.Name "_law_heard" p) [.Lambda params body scope lpos] [] pos) (tLam (TL X.K) (TTh X.K) t) := by
  obtain ⟨oc, od, dV, kV, doc, pm, an, cdv, ct, osl, lk, hcd, b, kp, g⟩ := heardF T
  have hR : Room 6 X.A := hr.mono (by omega)
  exact pe_lamcall hg g kp lk hcd b scHd rfl (.inl rfl) (heard_gives T hR fun _ _ => call_repX hG (hR.deeper _).units) TB hcode hmT hu hr L hdef hbind hbody
end
end K9
set_option Elab.async false
set_option linter.all false
set_option maxRecDepth 100000
set_option maxHeartbeats 1000000
/-! What is heard, row by row; what is due. -/
namespace K9
open PySem PySem.Spec PyProof.Rows L2 RV EV He EF EI Hd LamX NdefX
abbrev Hdt : Type := Option (Str × Str)
def HdAt (H : Hp) (v : V) : Hdt → Prop
  | none => v = .str "made"
  | some q => ∃ r, v = .ref r ∧ H r = some (.tup [.str q.1, .str q.2])
def HdAll (H : Hp) : List V → List Hdt → Prop
  | [], [] => True
  | v :: vs, h :: hs => HdAt H v h ∧ HdAll H vs hs
  | _, _ => False
def hdD : Hdt → PyData
  | none => .str "made"
  | some q => .tuple [.str q.1, .str q.2]
def okH : Hdt → Bool
  | none => true
  | some q => PyData.strOk q.1 && PyData.strOk q.2
theorem HdAt.ext {H H' : Hp} {v : V} {h : Hdt} (a : HdAt H v h) (s : ExtN H H') : HdAt H' v h := by
  cases h with
  | none => exact a
  | some q => exact let ⟨r, e, hr⟩ := a; ⟨r, e, s _ _ hr (fun _ z => nomatch z)⟩
theorem HdAll.ext {H H' : Hp} (s : ExtN H H') : ∀ {vs : List V} {hs : List Hdt}, HdAll H vs hs → HdAll H' vs hs
  | [], [], _ => trivial
  | _ :: _, _ :: _, h => ⟨h.1.ext s, HdAll.ext s h.2⟩
  | [], _ :: _, h => h.elim
  | _ :: _, [], h => h.elim
theorem HdAt.upd {H : Hp} {v : V} {h : Hdt} {L : Addr} {xs : List V} {o : HO} (a : HdAt H v h) (hL : H L = some (.lst xs)) : HdAt (L2.upd H L o) v h := by
  cases h with
  | none => exact a
  | some q => exact let ⟨r, e, hr⟩ := a; ⟨r, e, by rw [upd_ne fun z => by rw [z, hL] at hr; exact nomatch (Option.some.inj hr)]; exact hr⟩
theorem HdAll.upd {H : Hp} {L : Addr} {xs : List V} {o : HO} (hL : H L = some (.lst xs)) : ∀ {vs : List V} {hs : List Hdt}, HdAll H vs hs → HdAll (L2.upd H L o) vs hs
  | [], [], _ => trivial
  | _ :: _, _ :: _, h => ⟨h.1.upd hL, HdAll.upd hL h.2⟩
  | [], _ :: _, h => h.elim
  | _ :: _, [], h => h.elim
theorem HdAll.len {H : Hp} : ∀ {vs : List V} {hs : List Hdt}, HdAll H vs hs → vs.length = hs.length
  | [], [], _ => rfl
  | _ :: _, _ :: _, h => congrArg Nat.succ (HdAll.len h.2)
  | [], _ :: _, h => h.elim
  | _ :: _, [], h => h.elim
theorem HdAll.app {H : Hp} : ∀ {vs us : List V} {hs gs : List Hdt}, HdAll H vs hs → HdAll H us gs → HdAll H (vs ++ us) (hs ++ gs)
  | [], _, [], _, _, g => g
  | _ :: _, _, _ :: _, _, h, g => ⟨h.1, HdAll.app h.2 g⟩
  | [], _, _ :: _, _, h, _ => h.elim
  | _ :: _, _, [], _, h, _ => h.elim
theorem HdAll.rep {H : Hp} {vs : List V} {hs : List Hdt} (h : HdAll H vs hs) : ∀ n : Nat, HdAll H (List.replicate n vs).flatten (List.replicate n hs).flatten
  | 0 => trivial
  | n + 1 => by
    rw [List.replicate_succ, List.replicate_succ, List.flatten_cons, List.flatten_cons]
    exact h.app (HdAll.rep h n)
theorem dp_all {K : PySem.W.Frag} {H : Hp} : ∀ {vs : List V} {hs : List Hdt}, HdAll H vs hs → DpAll K H vs (hs.map hdD)
  | [], [], _ => .nil
  | v :: vs, h :: hs, a => by
    refine .cons ?_ (dp_all a.2)
    have a1 := a.1
    cases h with
    | none =>
      rw [show v = V.str "made" from a1]
      exact .str _
    | some q =>
      obtain ⟨r, rfl, hr⟩ := a1
      exact .tup (SqT.of hr) (.cons (.str _) (.cons (.str _) .nil))
  | [], _ :: _, h => h.elim
  | _ :: _, [], h => h.elim
theorem lay_all : ∀ hs : List Hdt, hs.all okH = true → PyData.canLayAll0 (hs.map hdD) = true
  | [], _ => rfl
  | h :: hs, a => by
    rw [List.all_cons] at a
    obtain ⟨a1, a2⟩ := ba a
    rw [List.map_cons]
    unfold PyData.canLayAll0
    rw [lay_all hs a2, Bool.and_true]
    cases h with
    | none => decide +kernel
    | some q =>
      obtain ⟨b1, b2⟩ := ba (show (PyData.strOk q.1 && PyData.strOk q.2) = true from a1)
      simp [hdD, PyData.canLay0, PyData.canLayAll0, b1, b2]
theorem depth_all : ∀ hs : List Hdt, PyData.depthAll (hs.map hdD) ≤ 1
  | [] => by decide +kernel
  | h :: hs => by
    have ih := depth_all hs
    rw [List.map_cons]
    unfold PyData.depthAll
    have : (hdD h).depth ≤ 1 := by cases h <;> simp [hdD, PyData.depth, PyData.depthAll]
    omega
theorem lay_list {hs : List Hdt} (a : hs.all okH = true) : PyData.canLay0 (.list (hs.map hdD)) = true := by
  unfold PyData.canLay0
  exact lay_all hs a
theorem shaped_all {hs : List Hdt} (a : hs.all okH = true) : SeqAt.shaped (.list (hs.map hdD)) = true := by
  unfold SeqAt.shaped
  rw [lay_list a, Bool.true_and]
  refine decide_eq_true ?_
  have := depth_all hs
  unfold PyData.depth
  omega
/-! what is due: expressions -/
def AtHs (hs : List Hdt) : V → Hp → Prop := fun v H => ∃ l vs, v = .ref l ∧ H l = some (.lst vs) ∧ HdAll H vs hs
def HdEl (h : Hdt) : V → Hp → Prop := fun v H => HdAt H v h
theorem stb_hs {hs : List Hdt} : Stb (AtHs hs) := fun _ _ _ s ⟨l, vs, e, h, a⟩ => ⟨l, vs, e, s _ _ h, a.ext (Same.extN s)⟩
def ERA (t : TA) (σ : L2.St) (H : Hp) (hs : List Hdt) : Prop := ∀ H1, Same H H1 → ∀ F : List V → Hp → Prop, (∀ vs H2, Same H1 H2 → HdAll H2 vs hs → F vs H2) → t σ H1 F
section
variable {K : PySem.W.Frag} {σ : L2.St} {H : Hp} {ta tb te : TE} {t : TA} {h : Hdt} {hs gs : List Hdt} {i : Nat} {v : V} {d : PyData} {tag x : Str}
theorem era_nil : ERA tNil σ H [] := fun H1 s1 F k => k [] H1 (fun _ _ e => e) trivial
theorem era_cons (a : ER te σ H (HdEl h)) (b : ERA t σ H hs) : ERA (tCons te t) σ H (h :: hs) := fun H1 s1 F k => a H1 s1 _ fun v H2 s2 hv => b H2 (s1.trans s2) _ fun vs H3 s3 hvs => k (v :: vs) H3 (s2.trans s3) ⟨HdAt.ext hv (Same.extN s3), hvs⟩
theorem er_lst (b : ERA t σ H hs) (hz : hs.length ≤ 1000) : ER (tLst t) σ H (AtHs hs) := fun H1 s1 F k => b H1 s1 _ fun vs H2 s2 a => by
  refine ⟨by rw [a.len, sizeLine_eq]; omega, fun p np => ?_⟩
  have s3 := same_new (o := .lst vs) np
  exact k _ _ (s2.trans s3) ⟨p, vs, rfl, upd_same, a.ext (Same.extN s3)⟩
theorem er_mul {n : Nat} (a : ER ta σ H (AtHs hs)) (hne : hs ≠ []) (hz : hs.length ≤ 100) (hn : n ≤ 100) : ER (tOp rMulL ta (tC (.int n))) σ H (AtHs (List.replicate n hs).flatten) := fun H1 s1 F k => a H1 s1 _ fun v H2 s2 ⟨l, vs, e, hl, hv⟩ => by
  obtain rfl := e
  have el := hv.len
  refine ⟨l, n, vs, rfl, rfl, hl, fun z => by rw [z] at el; exact hne (List.eq_nil_of_length_eq_zero el.symm), by omega, by omega, by omega, fun p np _ => ?_⟩
  have s3 := same_new (o := .lst (List.replicate (Int.toNat (n : Int)) vs).flatten) np
  refine k _ _ (s2.trans s3) ⟨p, _, rfl, upd_same, ?_⟩
  rw [Int.toNat_natCast]
  exact (hv.rep n).ext (Same.extN (same_new np))
theorem er_cat (a : ER ta σ H (AtHs hs)) (b : ER tb σ H (AtHs gs)) (hz : hs.length + gs.length ≤ 1000) : ER (tOp rCat ta tb) σ H (AtHs (hs ++ gs)) := a.op stb_hs b fun u v H1 F s ⟨l, vs, e, hl, hv⟩ ⟨q, us, e2, hq, hu⟩ k => by
  obtain rfl := e
  obtain rfl := e2
  refine ⟨l, q, vs, us, rfl, rfl, hl, hq, by rw [hv.len, hu.len, sizeLine_eq]; omega, fun p np => ?_⟩
  have s3 := same_new (o := .lst (vs ++ us)) np
  exact k _ _ s3 ⟨p, _, rfl, upd_same, (hv.app hu).ext (Same.extN s3)⟩
theorem er_made : ER (tC (.str "made")) σ H (HdEl none) := fun H1 s1 F k => k _ H1 (fun _ _ e => e) rfl
theorem er_repV (hi : σ[i]? = some (some v)) (o : Odd H v d) (hb : repB d = true) : ER (tCB rRepX (tCons (tVar i) tNil)) σ H (IsV (.str d.shown)) := fun H1 s1 F k => ⟨_, hi, v, d, rfl, (o.same s1).dat, hb, k _ H1 (fun _ _ e => e) rfl⟩
theorem er_tag (hi : σ[i]? = some (some v)) (o : Odd H v d) (hb : repB d = true) : ER (tT2 (tC (.str tag)) (tCB rRepX (tCons (tVar i) tNil))) σ H (HdEl (some (tag, d.shown))) := fun H1 s1 F k =>
  er_any2 er_c (er_repV hi o hb) H1 s1 F fun u H2 s2 ⟨r, e, hr⟩ => k u H2 s2 ⟨r, e, hr⟩
theorem er_tagC : ER (tT2 (tC (.str tag)) (tC (.str x))) σ H (HdEl (some (tag, x))) := fun H1 s1 F k =>
  er_any2 er_c er_c H1 s1 F fun u H2 s2 ⟨r, e, hr⟩ => k u H2 s2 ⟨r, e, hr⟩
theorem isN_test (hi : σ[i]? = some (some v)) : TestR (tB (tIsN (tVar i))) σ H (decide (v = .non)) := fun H1 s1 F k => ⟨_, hi, _, rfl, k H1 fun _ _ e => e⟩
theorem er_ifN {h1 h2 : Hdt} (hi : σ[i]? = some (some v)) (a : ER ta σ H (HdEl h1)) (b : ER tb σ H (HdEl h2)) : ER (tIf (tB (tIsN (tVar i))) ta tb) σ H (HdEl (if v = .non then h1 else h2)) :=
  er_if (isN_test hi) (fun e => by rw [if_pos (of_decide_eq_true e)]; exact a) fun e => by rw [if_neg (of_decide_eq_false e)]; exact b
end
/-! what is heard -/
def Hears (K : PySem.W.Frag) (t : XK → TE) (σ : L2.St) (H0 : Hp) (o : Option Err) : Prop := ∀ H1, ExtN H0 H1 → ∀ (E : XK) (Q : VK), OutE K o H1 E Q → t E σ H1 Q
/-- how an outcome is told -/
def ToldAs (H0 : Hp) : Option Err → Hdt → Prop
  | none, none => True
  | some e, some h => ∃ q ∈ fourN, e.1 = q.1 ∧ e.2.1 = q.2.1 ∧ h.1 = q.2.2 ∧ ∃ d, Odd H0 e.2.2 d ∧ repB d = true ∧ h.2 = d.shown
  | _, _ => False
abbrev tHd (K : PySem.W.Frag) (t : XK → TE) : TE := tLam (TL K) (TTh K) t
abbrev tHs (K : PySem.W.Frag) (s : Nat) (t : XK → TE) : TS := tAsg (tLst (tCons (tHd K t) tNil)) (gName s)
abbrev tAp (K : PySem.W.Frag) (s : Nat) (t : XK → TE) : TS := tDrop (tBM K "list" rAppend (tVar s) (tCons (tHd K t) tNil))
section
variable {K : PySem.W.Frag} {σ : L2.St} {H H0 : Hp} {D : Ends} {t : XK → TE} {o : Option Err} {h : Hdt} {Q : VK} {s : Nat} {hs : List Hdt} {L : Addr} {te : TE}
theorem hd_read (hT : Tabs (TL K) H) (e0 : ExtN H0 H) (a : Hears K t σ H0 o) (ta : ToldAs H0 o h) (k : ∀ v H', ExtN H H' → Tabs (TL K) H' → HdAt H' v h → Q v H') : tHd K t σ H Q := by
  refine ⟨hT, fun H1 e1 T1 => ?_⟩
  have e01 := e0.trans e1
  refine a H1 e01 (ErrH K Q) (fun _ H' => Q (.str "made") H') ?_
  match o, h, ta with
  | none, none, _ => exact fun v H2 s2 => k _ H2 (e1.trans (Same.extN s2)) (T1.ext s2) rfl
  | some e, some (tg, tx), ⟨q, hq, q1, q2, q3, d, od, hb, hx⟩ =>
    intro H2 s2 dd nd
    have q3 : tg = q.2.2 := q3
    have hx : tx = d.shown := hx
    subst q3 hx
    rw [q1, q2]
    have o2 : Odd H2 e.2.2 d := od.ext (e01.trans (Same.extN s2))
    refine ⟨q, hq, e.2.2, d, dd, rfl, rfl, upd_same, o2.same (same_new nd), hb, fun r H3 s3 hr => ?_⟩
    have s := s2.trans ((same_new nd).trans s3)
    exact k _ H3 (e1.trans (Same.extN s)) (T1.ext s) ⟨r, rfl, hr⟩
theorem tabs_two {H H' : Hp} {p : Addr} {o : HO} (t : Tabs (TL K) H) (hp : H p = some o) (no : ∀ ps, o ≠ .tbl ps) (no2 : ∀ φ, o ≠ .ext φ) (s : Same2 H H' p) : Tabs (TL K) H' := fun q hq => by
  obtain ⟨ps, h1, h2, h3⟩ := t q hq
  have ne : q.1 ≠ p := fun e => by
    rw [e, hp] at h1
    exact no ps (Option.some.inj h1)
  refine ⟨ps, s _ _ ne h1, h2, fun pos cv hc => ?_⟩
  obtain ⟨c, e1, e2⟩ := h3 pos cv hc
  have nc : c ≠ p := fun e => by
    rw [e, hp] at e2
    exact no2 _ (Option.some.inj e2)
  exact ⟨c, e1, s _ _ nc e2⟩
theorem tabs_lst {xs ys : List V} (hT : Tabs (TL K) H) (hL : H L = some (.lst xs)) : Tabs (TL K) (upd H L (.lst ys)) := tabs_two hT hL (fun _ z => nomatch z) (fun _ z => nomatch z) two_upd
/-- what is heard so far -/
structure Run (K : PySem.W.Frag) (H0 H : Hp) (L : Addr) (hs : List Hdt) : Prop where
  ex : ExtN H0 H
  tb : Tabs (TL K) H
  nL : H0 L = none
  hL : ∃ vs, H L = some (.lst vs) ∧ HdAll H vs hs
/-- _law_heard_here = [_law_heard(lambda: ..)] -/
theorem s_first (hT : Tabs (TL K) H) (a : Hears K t σ H o) (ta : ToldAs H o h) (k : ∀ H0 H' L, ExtN H H0 → Run K H0 H' L [h] → D.nx (σ.set s (some (.ref L))) H') : tHs K s t D σ H := by
  refine hd_read hT (fun _ _ e _ => e) a ta fun v H1 e1 T1 hv => ?_
  unfold tNil
  refine ⟨by show 1 ≤ sizeLine; decide, fun L nL => ?_⟩
  have s2 := same_new (o := .lst [v]) nL
  exact k H1 _ L e1 ⟨Same.extN s2, T1.ext s2, nL, [v], upd_same, hv.ext (Same.extN s2), trivial⟩
/-- _law_heard_here.append(_law_heard(lambda: ..)) -/
theorem s_next (R : Run K H0 H L hs) (hi : σ[s]? = some (some (.ref L))) (hz : hs.length ≤ 1000) (a : Hears K t σ H0 o) (ta : ToldAs H0 o h) (k : ∀ H', Run K H0 H' L (hs ++ [h]) → D.nx σ H') : tAp K s t D σ H := by
  obtain ⟨vs, hL, hv⟩ := R.hL
  refine ⟨_, hi, .inl ⟨rfl, _, SqL.of hL⟩, ?_⟩
  refine hd_read R.tb R.ex a ta fun v H1 e1 T1 h1 => ?_
  have hL1 := e1 _ _ hL (fun _ z => nomatch z)
  refine ⟨L, _, _, rfl, rfl, hL1, by rw [hv.len, sizeLine_eq]; omega, k _ ⟨fun c u e n => ?_, tabs_lst T1 hL1, R.nL, vs ++ [v], upd_same, ?_⟩⟩
  · rw [upd_ne (ne_of_none e R.nL)]
    exact (R.ex.trans e1) c u e n
  · exact HdAll.app (HdAll.upd hL1 (hv.ext e1)) ⟨h1.upd hL1, trivial⟩
theorem Run.at (R : Run K H0 H L hs) : AtHs hs (.ref L) H := let ⟨vs, h, a⟩ := R.hL; ⟨L, vs, rfl, h, a⟩
theorem Run.same {H' : Hp} (R : Run K H0 H L hs) (s : Same H H') : Run K H0 H' L hs := let ⟨vs, h, a⟩ := R.hL; ⟨R.ex.trans (Same.extN s), R.tb.ext s, R.nL, vs, s _ _ h, a.ext (Same.extN s)⟩
/-- if _law_heard_here != due: return False -/
theorem ne_test (at_ : AtHs hs (.ref L) H) (hi : σ[s]? = some (some (.ref L))) (ok : hs.all okH = true) (due : ER te σ H (AtHs hs)) : TestR (tTest (tOp (rNeD K) (tVar s) te)) σ H false := fun H1 s1 F k => by
  obtain ⟨l, vs, e, hl, hv⟩ := stb_hs _ _ _ s1 at_
  obtain rfl := V.ref.inj e
  refine ⟨_, hi, due H1 s1 _ fun u H2 s2 ⟨q, us, e, hq, hu⟩ => ?_⟩
  obtain rfl := e
  refine ⟨.list (hs.map hdD), .list (hs.map hdD), .lst (SqL.of (s2 _ _ hl)) (dp_all (hv.ext (Same.extN s2))), .lst (SqL.of hq) (dp_all hu), shaped_all ok, shaped_all ok, ?_⟩
  rw [PySem.SeqAt.eqv_refl _ (lay_list ok)]
  exact ⟨false, rfl, k H2 s2⟩
theorem eq_er (at_ : AtHs hs (.ref L) H) (hi : σ[s]? = some (some (.ref L))) (ok : hs.all okH = true) (due : ER te σ H (AtHs hs)) : ER (tOp (rEqD K) (tVar s) te) σ H (IsV (.bl true)) := fun H1 s1 F k => by
  obtain ⟨l, vs, e, hl, hv⟩ := stb_hs _ _ _ s1 at_
  obtain rfl := V.ref.inj e
  refine ⟨_, hi, due H1 s1 _ fun u H2 s2 ⟨q, us, e, hq, hu⟩ => ?_⟩
  obtain rfl := e
  refine ⟨.list (hs.map hdD), .list (hs.map hdD), .lst (SqL.of (s2 _ _ hl)) (dp_all (hv.ext (Same.extN s2))), .lst (SqL.of hq) (dp_all hu), shaped_all ok, shaped_all ok, ?_⟩
  rw [PySem.SeqAt.eqv_refl _ (lay_list ok)]
  exact k _ H2 s2 rfl
end
end K9
set_option Elab.async false
set_option linter.all false
set_option maxRecDepth 100000
set_option maxHeartbeats 1000000
/-! What comes of the lambdas; what is picked. -/
namespace K9
open PySem PySem.Spec PyProof.Rows L2 RV EV He EF EI Hd LamX NdefX
/-- arguments that are at hand -/
def ArgsE (t : TA) (σ : L2.St) (as : List V) : Prop := ∀ (H : Hp) (F : List V → Hp → Prop), F as H → t σ H F
section
variable {K : PySem.W.Frag} {σ : L2.St} {H0 H : Hp} {t tk : TA} {as zs : List V} {v u : V} {i : Nat} {o : Option Err}
theorem ar_nil : ArgsE tNil σ [] := fun _ _ k => k
theorem ar_var (hi : σ[i]? = some (some v)) (a : ArgsE t σ as) : ArgsE (tCons (tVar i) t) σ (v :: as) := fun H F k => ⟨v, hi, a H (fun xs H1 => F (v :: xs) H1) k⟩
theorem ar_c (a : ArgsE t σ as) : ArgsE (tCons (tC v) t) σ (v :: as) := fun H F k => a H (fun xs H1 => F (v :: xs) H1) k
theorem ao_nil : AllOdd H0 [] := fun _ h => nomatch h
theorem ao_cons {d : PyData} (o : Odd H0 v d) (a : AllOdd H0 as) : AllOdd H0 (v :: as) := fun x hx => by
  rcases List.mem_cons.mp hx with e | h
  · rw [e]; exact ⟨d, o⟩
  · exact a x h
theorem hears_mk {C : Addr} {n : Nat} {oc : List V → Option Err} {fl : List V → List (Str × V)} (A : ArgsE t σ as) (hl : as.length = n) (ao : AllOdd H0 as) (e : oc as = o) : Hears K (fun E => tMake C (spMk K C n oc fl) [] E t) σ H0 o := fun H1 e1 E Q c => by
  refine A H1 _ ?_
  subst e
  have z := mk_out (K := K) (C := C) (fl := fl) hl (ao.ext e1) c
  intro x dx nx nd ne
  rw [List.append_nil]
  exact z x dx nx nd ne
theorem hears_drop {C : Addr} {oc : List V → Option Err} {fl : List V → List (Str × V)} {m : Nat} (hm : m = 2) (A : ArgsE tk σ [v, u]) (ao : AllOdd H0 [u, v]) (e : oc [u, v] = o) : Hears K (fun E => tMakeK C 0 m (spMk K C 2 oc fl) gDr E tNil tk) σ H0 o := fun H1 e1 E Q c => by
  subst e hm
  refine A H1 _ ⟨rfl, rfl, ?_⟩
  exact mk_out (K := K) (C := C) (fl := fl) (as := [u, v]) rfl (ao.ext e1) c
theorem hears_sk {C : Addr} {ocs : V → List V → Option Err} {f g : Str} (A : ArgsE t σ as) (hz : as.length ≤ 100) (ao : AllOdd H0 as) (e : ocs .non as = o) : Hears K (fun E => Sk.tSK C (Sk.spSK (spMkS K C ocs f g)) E t) σ H0 o := fun H1 e1 E Q c => by
  subst e
  exact A H1 _ (mks_out (K := K) (by rw [sizeLine_eq]; omega) ⟨_, .non⟩ (ao.ext e1) c)
theorem hears_skK {C : Addr} {ocs : V → List V → Option Err} {f g : Str} {d : PyData} (A : ArgsE t σ as) (B : ArgsE tk σ [u]) (hz : as.length ≤ 100) (ao : AllOdd H0 as) (uo : Odd H0 u d) (e : ocs u as = o) : Hears K (fun E => Sk.tSKK C (Sk.spSK (spMkS K C ocs f g)) E t tk) σ H0 o := fun H1 e1 E Q c => by
  subst e
  exact A H1 _ (B H1 _ ⟨u, rfl, mks_out (K := K) (by rw [sizeLine_eq]; omega) ⟨_, uo.ext e1⟩ (ao.ext e1) c⟩)
end
/-! what is picked -/
def OddP (Pr : V → PyData → Prop) (v : V) (H : Hp) : Prop := ∃ d, Odd H v d ∧ Pr v d
def ERL (t : TA) (σ : L2.St) (H : Hp) (n : Nat) (Pr : V → PyData → Prop) : Prop := ∀ H1, Same H H1 → ∀ F : List V → Hp → Prop, (∀ vs H2, Same H1 H2 → vs.length = n → (∀ v ∈ vs, OddP Pr v H2) → F vs H2) → t σ H1 F
def AtOdds (H0 : Hp) (n : Nat) (Pr : V → PyData → Prop) : V → Hp → Prop := fun v H => ∃ l xs, v = .ref l ∧ H0 l = none ∧ H l = some (.lst xs) ∧ xs.length = n ∧ ∀ x ∈ xs, OddP Pr x H
abbrev tLst1 (t : TA) : TE := fun σ H Q => t σ H fun xs H1 => xs.length ≤ sizeLine ∧ ∀ p, H1 p = none → p ≠ sysModules → Q (.ref p) (upd H1 p (.lst xs))
section
variable {K : PySem.W.Frag} {σ : L2.St} {H : Hp} {te : TE} {t : TA} {n : Nat} {Pr : V → PyData → Prop} {v : V} {d : PyData} {x : Str} {i j : Int}
theorem OddP.same {H' : Hp} (o : OddP Pr v H) (s : Same H H') : OddP Pr v H' := let ⟨d, a, b⟩ := o; ⟨d, a.same s, b⟩
theorem erl_nil : ERL tNil σ H 0 Pr := fun H1 s1 F k => k [] H1 (fun _ _ e => e) rfl fun _ h => nomatch h
theorem erl_cons (a : ER te σ H (OddP Pr)) (b : ERL t σ H n Pr) : ERL (tCons te t) σ H (n + 1) Pr := fun H1 s1 F k => a H1 s1 _ fun v H2 s2 hv => b H2 (s1.trans s2) _ fun vs H3 s3 hn hvs => k (v :: vs) H3 (s2.trans s3) (by rw [List.length_cons, hn]) fun y hy => by
  rcases List.mem_cons.mp hy with e | h
  · rw [e]; exact OddP.same hv s3
  · exact hvs y h
theorem erl_lst (b : ERL t σ H n Pr) (hz : n ≤ 1000) : ER (tLst t) σ H (AtOdds H n Pr) := fun H1 s1 F k => b H1 s1 _ fun vs H2 s2 hn a => by
  refine ⟨by rw [hn, sizeLine_eq]; omega, fun p np => ?_⟩
  have s3 := same_new (o := .lst vs) np
  have n0 : H p = none := by
    cases e : H p with
    | none => rfl
    | some o => rw [s2 _ _ (s1 _ _ e)] at np; cases np
  exact k _ _ (s2.trans s3) ⟨p, vs, rfl, n0, upd_same, hn, fun y hy => OddP.same (a y hy) s3⟩
theorem od_c (o : ∀ H', Odd H' v d) (h : Pr v d) : ER (tC v) σ H (OddP Pr) := fun H1 s1 F k => k v H1 (fun _ _ e => e) ⟨d, o H1, h⟩
theorem od_non (h : Pr .non .none) : ER (tC .non) σ H (OddP Pr) := od_c (fun _ => .non) h
theorem od_int (h : Pr (.int i) (.int i)) : ER (tC (.int i)) σ H (OddP Pr) := od_c (fun _ => .int i) h
theorem od_bl {b : Bool} (h : Pr (.bl b) (.bool b)) : ER (tC (.bl b)) σ H (OddP Pr) := od_c (fun _ => .bl b) h
theorem od_str (hz : x.length ≤ 1000) (h : Pr (.str x) (.str x)) : ER (tC (.str x)) σ H (OddP Pr) := od_c (fun _ => .str hz) h
theorem od_neg (h : Pr (.int (-i)) (.int (-i))) : ER (tUn (rU fun i => V.int (-i)) (tC (.int i))) σ H (OddP Pr) := fun H1 s1 F k => ⟨i, rfl, k _ H1 (fun _ _ e => e) ⟨_, .int _, h⟩⟩
theorem od_pow (hc : CPow i j) (h : Pr (.int (i ^ j.toNat)) (.int (i ^ j.toNat))) : ER (tOp (rI CPow fun i j => V.int (i ^ j.toNat)) (tC (.int i)) (tC (.int j))) σ H (OddP Pr) := fun H1 s1 F k => ⟨i, j, rfl, rfl, hc, k _ H1 (fun _ _ e => e) ⟨_, .int _, h⟩⟩
theorem od_tup {e : PyData} (r : Atoms [v] [e]) (h : ∀ p, Pr (.ref p) (.tuple [e])) : ER (tTup (tCons (tC v) tNil)) σ H (OddP Pr) := fun H1 s1 F k => by
  refine ⟨by show 1 ≤ sizeLine; decide, fun p np => k _ _ (same_new np) ⟨_, .tup upd_same r, h p⟩⟩
theorem od_lst {e : PyData} (r : Atoms [v] [e]) (h : ∀ p, Pr (.ref p) (.list [e])) : ER (tLst1 (tCons (tC v) tNil)) σ H (OddP Pr) := fun H1 s1 F k => by
  refine ⟨by show 1 ≤ sizeLine; decide, fun p np ns => k _ _ (same_new np) ⟨_, .lst upd_same ns r, h p⟩⟩
theorem od_dic (h : ∀ p, Pr (.ref p) (.dict [])) : ER tDNewK σ H (OddP Pr) := fun H1 s1 F k p np => k _ _ (same_new np) ⟨_, .dic upd_same, h p⟩
end
abbrev tPk (s : Nat) (tl : TE) : TS := tAsg (tCall spPick [] E0 (tCons (tVar 0) (tCons tl tNil))) (gName s)
section
variable {K : PySem.W.Frag} {σ : L2.St} {H : Hp} {D : Ends} {p a : Addr} {cs : List Int} {b g : Int} {tl : TE} {n s : Nat} {Pr : V → PyData → Prop}
theorem pen_up {H' : Hp} (hT : Tabs (TL K) H) (N : Pen H p a cs b g) (k : Same2 H H' p) : Tabs (TL K) H' := tabs_two hT N.pn (fun _ z => nomatch z) (fun _ z => nomatch z) k
theorem pick_read (N : Pen H p a cs b g) (h0 : σ[0]? = some (some (.ref p))) (hb : b ≤ 990) (n0 : 0 < n) (n1 : n < 1000) (e : ER tl σ H (AtOdds H n Pr))
    (k : ∀ v d b' g' H', Odd H' v d → Pr v d → b' ≤ b + 1 → Pen H' p a cs b' g' → Same2 H H' p → D.nx (σ.set s (some v)) H') : tPk s tl D σ H := by
  refine ⟨_, h0, e H (fun _ _ e => e) _ fun v H1 s1 ⟨l, xs, ev, nl, hl, hn, hx⟩ => ?_⟩
  subst ev
  unfold tNil
  show spPick [.ref p, .ref l] H1 _ _
  have ne : l ≠ p := fun z => by rw [z, N.pn] at nl; cases nl
  have N1 := N.same s1
  refine ⟨p, a, l, cs, b, g, xs, rfl, N1, by omega, ne, hl, fun z => by rw [z] at hn; simp at hn; omega, by omega, fun x b' g' H' hx' hb' N' kp => ?_⟩
  obtain ⟨d, o, h⟩ := hx x hx'
  exact k x d b' g' H' (o.pen N1 kp) h hb' N' fun c u hc e => kp c u hc (s1 _ _ e)
end
end K9
set_option Elab.async false
set_option linter.all false
set_option maxRecDepth 100000
set_option maxHeartbeats 4000000
/-! _law_one_right: its code. -/
namespace K9
open PySem PySem.Spec PyProof.Rows L2 RV EV He EF EI Hd LamX NdefX
abbrev sOne : Stmt := top 67
abbrev scOne_N : List Str := ["_law_pen_here", "_law_fix", "_law_line", "_law_day", "_law_heard_here"]
theorem scOne : FnScope scOne_N ["_law_pen_here"] (defScope sOne) := ⟨rfl, rfl, rfl, by decide +kernel, rfl, by decide +kernel, by decide +kernel⟩
abbrev rPl : R2 := rI0 fun i j => V.int (i + j)
abbrev rMi : R2 := rI0 fun i j => V.int (i - j)
abbrev rStrI : List V → Hp → VK → Prop := fun xs H Q => ∃ i : Int, xs = [.int i] ∧ i.natAbs.log2 < 1920 ∧ Q (.str (toString i)) H
def tF_One_0 (K : PySem.W.Frag) : XK → TE := fun E => tMake (ga K "Fix") (spDFix K) [] E (tCons (tVar 1) tNil)
def tF_One_1 (K : PySem.W.Frag) : XK → TE := fun E => tMake (ga K "Unfix") (spDUnfix K) [] E (tCons (tVar 1) tNil)
def tF_One_2 (K : PySem.W.Frag) : XK → TE := fun E => tMake (ga K "Carry") (spDCarry K) [] E (tCons (tVar 1) (tCons (tVar 2) tNil))
def tF_One_3 (K : PySem.W.Frag) : XK → TE := fun E => tMakeK (ga K "Drop") 0 (["line", "fix"] : List Str).length (spDDrop K) gDr E tNil (tCons (tVar 2) (tCons (tVar 1) tNil))
def tF_One_4 (K : PySem.W.Frag) : XK → TE := fun E => tMake (ga K "Merge") (spDMerge K) [] E (tCons (tC (.int 2)) (tCons (tVar 1) tNil))
def tF_One_5 (K : PySem.W.Frag) : XK → TE := fun E => tMake (ga K "Carry") (spDCarry K) [] E (tCons (tC (.str "f")) (tCons (tVar 2) tNil))
def tF_One_6 (K : PySem.W.Frag) : XK → TE := fun E => tMake (ga K "Merge") (spDMerge K) [] E (tCons (tVar 2) (tCons (tVar 1) tNil))
def tF_One_7 (K : PySem.W.Frag) : XK → TE := fun E => tMake (ga K "End") (spDEnd K) [] E (tCons (tVar 2) tNil)
def tF_One_8 (K : PySem.W.Frag) : XK → TE := fun E => tMake (ga K "Offer") (spDOffer K) [] E (tCons (tVar 2) tNil)
def tF_One_9 (K : PySem.W.Frag) : XK → TE := fun E => tMake (ga K "Live") (spDLive K) [] E (tCons (tVar 2) tNil)
def tF_One_10 (K : PySem.W.Frag) : XK → TE := fun E => tMake (ga K "Down") (spDDown K) [] E (tCons (tVar 2) tNil)
def tF_One_11 (K : PySem.W.Frag) : XK → TE := fun E => tMake (ga K "Day") (spDDay K) [] E (tCons (tVar 2) tNil)
def tF_One_12 (K : PySem.W.Frag) : XK → TE := fun E => tMake (ga K "Try") (spDTry K) [] E (tCons (tVar 2) (tCons (tVar 2) tNil))
def tF_One_13 (K : PySem.W.Frag) : XK → TE := fun E => tMake (ga K "Probe") (spDProbe K) [] E (tCons (tC (.int 2)) (tCons (tVar 2) tNil))
def tF_One_14 (K : PySem.W.Frag) : XK → TE := fun E => tMake (ga K "Meet") (spDMeet K) [] E (tCons (tC (.int 1)) (tCons (tVar 2) tNil))
def tF_One_15 (K : PySem.W.Frag) : XK → TE := fun E => tMake (ga K "Redo") (spDRedo K) [] E (tCons (tVar 3) tNil)
def tF_One_16 (K : PySem.W.Frag) : XK → TE := fun E => tMake (ga K "Shut") (spDShut K) [] E (tCons (tVar 3) tNil)
def tOne (K : PySem.W.Frag) : TS := (tSeq (tAsg (tCall spPick [] E0 (tCons (tVar 0) (tCons (tLst (tCons (tC .non) (tCons (tC (.int 0)) (tCons (tC (.str "")) (tCons (tC (.str "F")) (tCons (tC (.str "f1")) (tCons (tC (.str "abcdefghi")) (tCons (tC (.str "f g")) (tCons (tC (.str "f\n")) (tCons (tLst1 (tCons (tC (.str "f")) tNil)) (tCons (tTup (tCons (tC (.str "f")) tNil)) (tCons (tC (.bl true)) (tCons tDNewK tNil))))))))))))) tNil))) (gName 1))
  (tSeq (tAsg (tCall spPick [] E0 (tCons (tVar 0) (tCons (tLst (tCons (tC .non) (tCons (tC (.int 0)) (tCons (tC (.int 7)) (tCons (tUn (rU fun i => V.int (-i)) (tC (.int 1))) (tCons (tC (.bl true)) (tCons (tC (.str "1")) (tCons (tTup (tCons (tC (.int 1)) tNil)) (tCons (tLst1 (tCons (tC (.int 1)) tNil)) (tCons tDNewK (tCons (tOp (rI CPow fun i j => V.int (i ^ j.toNat)) (tC (.int 10)) (tC (.int 30))) tNil))))))))))) tNil))) (gName 2))
  (tSeq (tAsg (tCall spPick [] E0 (tCons (tVar 0) (tCons (tLst (tCons (tC .non) (tCons (tC (.int 0)) (tCons (tC (.int 201)) (tCons (tUn (rU fun i => V.int (-i)) (tC (.int 1))) (tCons (tC (.bl true)) (tCons (tC (.str "1")) (tCons (tTup (tCons (tC (.int 1)) tNil)) (tCons (tLst1 (tCons (tC (.int 1)) tNil)) (tCons tDNewK (tCons (tOp (rI CPow fun i j => V.int (i ^ j.toNat)) (tC (.int 10)) (tC (.int 30))) tNil))))))))))) tNil))) (gName 3))
  (tSeq (tAsg (tLst (tCons (tHd K (tF_One_0 K)) tNil)) (gName 4))
  (tSeq (tDrop (tBM K "list" rAppend (tVar 4) (tCons (tHd K (tF_One_1 K)) tNil)))
  (tSeq (tDrop (tBM K "list" rAppend (tVar 4) (tCons (tHd K (tF_One_2 K)) tNil)))
  (tSeq (tDrop (tBM K "list" rAppend (tVar 4) (tCons (tHd K (tF_One_3 K)) tNil)))
  (tSeq (tDrop (tBM K "list" rAppend (tVar 4) (tCons (tHd K (tF_One_4 K)) tNil)))
  (tSeq (tIfS (tTest (tOp (rNeD K) (tVar 4) (tOp rCat (tOp rMulL (tLst (tCons (tTup (tCons (tC (.str "fix")) (tCons (tCB rRepX (tCons (tVar 1) tNil)) tNil))) tNil)) (tC (.int 4))) (tLst (tCons (tIf (tB (tIsN (tVar 1))) (tC (.str "made")) (tTup (tCons (tC (.str "fix")) (tCons (tCB rRepX (tCons (tVar 1) tNil)) tNil)))) tNil))))) (tRet (tC (.bl false))) tNext)
  (tSeq (tAsg (tLst (tCons (tHd K (tF_One_5 K)) tNil)) (gName 4))
  (tSeq (tDrop (tBM K "list" rAppend (tVar 4) (tCons (tHd K (tF_One_6 K)) tNil)))
  (tSeq (tDrop (tBM K "list" rAppend (tVar 4) (tCons (tHd K (tF_One_7 K)) tNil)))
  (tSeq (tDrop (tBM K "list" rAppend (tVar 4) (tCons (tHd K (tF_One_8 K)) tNil)))
  (tSeq (tDrop (tBM K "list" rAppend (tVar 4) (tCons (tHd K (tF_One_9 K)) tNil)))
  (tSeq (tDrop (tBM K "list" rAppend (tVar 4) (tCons (tHd K (tF_One_10 K)) tNil)))
  (tSeq (tDrop (tBM K "list" rAppend (tVar 4) (tCons (tHd K (tF_One_11 K)) tNil)))
  (tSeq (tDrop (tBM K "list" rAppend (tVar 4) (tCons (tHd K (tF_One_12 K)) tNil)))
  (tSeq (tDrop (tBM K "list" rAppend (tVar 4) (tCons (tHd K (tF_One_13 K)) tNil)))
  (tSeq (tDrop (tBM K "list" rAppend (tVar 4) (tCons (tHd K (tF_One_14 K)) tNil)))
  (tSeq (tIfS (tTest (tOp (rNeD K) (tVar 4) (tOp rMulL (tLst (tCons (tTup (tCons (tC (.str "line")) (tCons (tCB rRepX (tCons (tVar 2) tNil)) tNil))) tNil)) (tC (.int 10))))) (tRet (tC (.bl false))) tNext)
  (tSeq (tAsg (tLst (tCons (tHd K (tF_One_15 K)) tNil)) (gName 4))
  (tSeq (tDrop (tBM K "list" rAppend (tVar 4) (tCons (tHd K (tF_One_16 K)) tNil)))
  (tRet (tOp (rEqD K) (tVar 4) (tOp rMulL (tLst (tCons (tTup (tCons (tC (.str "day")) (tCons (tCB rRepX (tCons (tVar 3) tNil)) tNil))) tNil)) (tC (.int 2)))))))))))))))))))))))))))
section
variable {P : Program} {w : World} {K : PySem.W.Frag} {mg : Str → Option Value} {base : Heap}
theorem blt (T : KF P w K mg base) : Blt mg := ⟨T.fr _ (by decide), T.fr _ (by decide), T.fr _ (by decide), T.fr _ (by decide)⟩
theorem c_draw (T : KF P w K mg base) : Callee P w K mg base CX0 1 "_law_draw" ["_law_pen_here", "_law_many"] spDraw := by
  obtain ⟨fd, F, g⟩ := T.tops ("_law_draw", 64) (by decide)
  exact ⟨fd, ok_draw F (blt T), FunD.bindsN F fun _ _ _ _ _ _ us hl => match us, hl with | [_, _], _ => rfl, F.kp, g⟩
theorem c_pick (T : KF P w K mg base) : Callee P w K mg base CX0 2 "_law_pick" ["_law_pen_here", "_law_some"] spPick := by
  obtain ⟨fd, F, g⟩ := T.tops ("_law_pick", 65) (by decide)
  obtain ⟨fD, FD, gD⟩ := T.tops ("_law_draw", 64) (by decide)
  exact ⟨fd, ok_pick F (blt T) FD gD, FunD.bindsN F fun _ _ _ _ _ _ us hl => match us, hl with | [_, _], _ => rfl, F.kp, g⟩
theorem code_one (T : KF P w K mg base) (TB : TabB base mg (cc K qOne).1 (cc K qOne).2) {f : Addr} {A : Around} {outer : List Env} {s : Shared} {H : Hp} {E : XK} {cdv : Value} (hcd : cdv = .ref (cc K qOne).1) (hG : A.guards = some []) (hr : Room 9 (A.deeper (envOfC "_law_one_right" (defScope sOne) s.heap.objs.size f cdv))) :
    ∃ t, PSs (cxOf CX0 P w K mg base scOne_N "_law_one_right" (defScope sOne) f cdv A outer s H E) (defBody sOne) t ∧ t = tOne K := by
  obtain ⟨fI, GI, bI, kI, gI⟩ := c_pick (w := w) T
  obtain ⟨fFix, GFix, bFix, mFix, gFix⟩ := m_Fix (w := w) T
  obtain ⟨fUnfix, GUnfix, bUnfix, mUnfix, gUnfix⟩ := m_Unfix (w := w) T
  obtain ⟨fCarry, GCarry, bCarry, mCarry, gCarry⟩ := m_Carry (w := w) T
  obtain ⟨fDrop, GDrop, bDrop, mDrop, gDrop, kDrop⟩ := m_Drop (w := w) T
  obtain ⟨fMerge, GMerge, bMerge, mMerge, gMerge⟩ := m_Merge (w := w) T
  obtain ⟨fEnd, GEnd, bEnd, mEnd, gEnd⟩ := m_End (w := w) T
  obtain ⟨fOffer, GOffer, bOffer, mOffer, gOffer⟩ := m_Offer (w := w) T
  obtain ⟨fLive, GLive, bLive, mLive, gLive⟩ := m_Live (w := w) T
  obtain ⟨fDown, GDown, bDown, mDown, gDown⟩ := m_Down (w := w) T
  obtain ⟨fDay, GDay, bDay, mDay, gDay⟩ := m_Day (w := w) T
  obtain ⟨fTry, GTry, bTry, mTry, gTry⟩ := m_Try (w := w) T
  obtain ⟨fProbe, GProbe, bProbe, mProbe, gProbe⟩ := m_Probe (w := w) T
  obtain ⟨fMeet, GMeet, bMeet, mMeet, gMeet⟩ := m_Meet (w := w) T
  obtain ⟨fRedo, GRedo, bRedo, mRedo, gRedo⟩ := m_Redo (w := w) T
  obtain ⟨fShut, GShut, bShut, mShut, gShut⟩ := m_Shut (w := w) T
  have hu := hr.units
  have hm : ((cc K qOne).2, qOf qOne) ∈ TL K := tl_mem (by decide)
  have hu2 := tl_one T (q := qOne) (by decide)
  refine ⟨_, PSs.nox
    (pss_cons (ps_set (i := 1) scOne.nd rfl (.inr rfl) (pe_call (E := E0) GI (hr.mono (by decide)) (by rfl) gI kI bI .nil pass0 (pa_cons (pv 0) (pa_cons (pe_lst (pa_cons pe_non (pa_cons pe_int (pa_cons pe_str (pa_cons pe_str (pa_cons pe_str (pa_cons pe_str (pa_cons pe_str (pa_cons pe_str (pa_cons (pe_lst1 (pa_cons pe_str pa_nil)) (pa_cons (pe_tup (pa_cons pe_str pa_nil)) (pa_cons pe_bl (pa_cons pe_dnewK pa_nil))))))))))))) pa_nil))))
      (pss_cons (ps_set (i := 2) scOne.nd rfl (.inr rfl) (pe_call (E := E0) GI (hr.mono (by decide)) (by rfl) gI kI bI .nil pass0 (pa_cons (pv 0) (pa_cons (pe_lst (pa_cons pe_non (pa_cons pe_int (pa_cons pe_int (pa_cons (pe_un un_neg pe_int) (pa_cons pe_bl (pa_cons pe_str (pa_cons (pe_tup (pa_cons pe_int pa_nil)) (pa_cons (pe_lst1 (pa_cons pe_int pa_nil)) (pa_cons pe_dnewK (pa_cons (pe_op op_pow pe_int pe_int) pa_nil))))))))))) pa_nil))))
      (pss_cons (ps_set (i := 3) scOne.nd rfl (.inr rfl) (pe_call (E := E0) GI (hr.mono (by decide)) (by rfl) gI kI bI .nil pass0 (pa_cons (pv 0) (pa_cons (pe_lst (pa_cons pe_non (pa_cons pe_int (pa_cons pe_int (pa_cons (pe_un un_neg pe_int) (pa_cons pe_bl (pa_cons pe_str (pa_cons (pe_tup (pa_cons pe_int pa_nil)) (pa_cons (pe_lst1 (pa_cons pe_int pa_nil)) (pa_cons pe_dnewK (pa_cons (pe_op op_pow pe_int pe_int) pa_nil))))))))))) pa_nil))))
      (pss_cons (ps_set (i := 4) scOne.nd rfl (.inl rfl) (pe_lst (pa_cons (pe_heard (k := 7) (t := tF_One_0 K) hG (by decide) T TB hcd hm hu2 (by rfl) (hr.mono (by decide)) (lamS_by (by show lamSB (defScope sOne) _ = true; decide +kernel)) rfl (fun _ _ _ _ _ => rfl)
          (fun A2 out2 s2 H2 E2 f2 c2 hr2 => pe_make (E := E2) mFix GFix (hr2.mono (by decide)) (by rfl) gFix bFix .nil (passes_call (takes_of rfl rfl rfl rfl) fun _ _ _ _ h => h) (pa_cons (pv 1) pa_nil))) pa_nil)))
      (pss_cons (ps_expr (pe_bm PySem.F.plainAttrs_list PySem.F.slot_list_append PySem.F.type_list_append mt_append (pv 4) (pa_cons (pe_heard (k := 7) (t := tF_One_1 K) hG (by decide) T TB hcd hm hu2 (by rfl) (hr.mono (by decide)) (lamS_by (by show lamSB (defScope sOne) _ = true; decide +kernel)) rfl (fun _ _ _ _ _ => rfl)
          (fun A2 out2 s2 H2 E2 f2 c2 hr2 => pe_make (E := E2) mUnfix GUnfix (hr2.mono (by decide)) (by rfl) gUnfix bUnfix .nil (passes_call (takes_of rfl rfl rfl rfl) fun _ _ _ _ h => h) (pa_cons (pv 1) pa_nil))) pa_nil)))
      (pss_cons (ps_expr (pe_bm PySem.F.plainAttrs_list PySem.F.slot_list_append PySem.F.type_list_append mt_append (pv 4) (pa_cons (pe_heard (k := 7) (t := tF_One_2 K) hG (by decide) T TB hcd hm hu2 (by rfl) (hr.mono (by decide)) (lamS_by (by show lamSB (defScope sOne) _ = true; decide +kernel)) rfl (fun _ _ _ _ _ => rfl)
          (fun A2 out2 s2 H2 E2 f2 c2 hr2 => pe_make (E := E2) mCarry GCarry (hr2.mono (by decide)) (by rfl) gCarry bCarry .nil (passes_call (takes_of rfl rfl rfl rfl) fun _ _ _ _ h => h) (pa_cons (pv 1) (pa_cons (pv 2) pa_nil)))) pa_nil)))
      (pss_cons (ps_expr (pe_bm PySem.F.plainAttrs_list PySem.F.slot_list_append PySem.F.type_list_append mt_append (pv 4) (pa_cons (pe_heard (k := 7) (t := tF_One_3 K) hG (by decide) T TB hcd hm hu2 (by rfl) (hr.mono (by decide)) (lamS_by (by show lamSB (defScope sOne) _ = true; decide +kernel)) rfl (fun _ _ _ _ _ => rfl)
          (fun A2 out2 s2 H2 E2 f2 c2 hr2 => pe_makeK0 (E := E2) (ks := ["line", "fix"]) mDrop GDrop (hr2.mono (by decide)) (by rfl) gDrop kDrop (passes_call (takes_of rfl rfl rfl rfl) fun _ _ _ _ h => h) (pk_cons (pv 2) (pk_cons (pv 1) pk_nil)))) pa_nil)))
      (pss_cons (ps_expr (pe_bm PySem.F.plainAttrs_list PySem.F.slot_list_append PySem.F.type_list_append mt_append (pv 4) (pa_cons (pe_heard (k := 7) (t := tF_One_4 K) hG (by decide) T TB hcd hm hu2 (by rfl) (hr.mono (by decide)) (lamS_by (by show lamSB (defScope sOne) _ = true; decide +kernel)) rfl (fun _ _ _ _ _ => rfl)
          (fun A2 out2 s2 H2 E2 f2 c2 hr2 => pe_make (E := E2) mMerge GMerge (hr2.mono (by decide)) (by rfl) gMerge bMerge .nil (passes_call (takes_of rfl rfl rfl rfl) fun _ _ _ _ h => h) (pa_cons pe_int (pa_cons (pv 1) pa_nil)))) pa_nil)))
      (pss_cons (ps_if (pt_cmpR (op_neD hu) (pv 4) (pe_op op_cat (pe_op op_mulL (pe_lst (pa_cons (pe_tup (pa_cons pe_str (pa_cons (pe_callB (call_repX hG hu) (by rfl) (T.fr "repr" (by decide)) PyProof.Rows.boot_repr (pa_cons (pv 1) pa_nil)) pa_nil))) pa_nil)) pe_int) (pe_lst (pa_cons (pe_ifExp (pt_cmp (pc_isN (pv 1))) pe_str (pe_tup (pa_cons pe_str (pa_cons (pe_callB (call_repX hG hu) (by rfl) (T.fr "repr" (by decide)) PyProof.Rows.boot_repr (pa_cons (pv 1) pa_nil)) pa_nil)))) pa_nil))) (nomark _)) (pss_one (ps_ret pe_bl)) pss_nil)
      (pss_cons (ps_set (i := 4) scOne.nd rfl (.inl rfl) (pe_lst (pa_cons (pe_heard (k := 7) (t := tF_One_5 K) hG (by decide) T TB hcd hm hu2 (by rfl) (hr.mono (by decide)) (lamS_by (by show lamSB (defScope sOne) _ = true; decide +kernel)) rfl (fun _ _ _ _ _ => rfl)
          (fun A2 out2 s2 H2 E2 f2 c2 hr2 => pe_make (E := E2) mCarry GCarry (hr2.mono (by decide)) (by rfl) gCarry bCarry .nil (passes_call (takes_of rfl rfl rfl rfl) fun _ _ _ _ h => h) (pa_cons pe_str (pa_cons (pv 2) pa_nil)))) pa_nil)))
      (pss_cons (ps_expr (pe_bm PySem.F.plainAttrs_list PySem.F.slot_list_append PySem.F.type_list_append mt_append (pv 4) (pa_cons (pe_heard (k := 7) (t := tF_One_6 K) hG (by decide) T TB hcd hm hu2 (by rfl) (hr.mono (by decide)) (lamS_by (by show lamSB (defScope sOne) _ = true; decide +kernel)) rfl (fun _ _ _ _ _ => rfl)
          (fun A2 out2 s2 H2 E2 f2 c2 hr2 => pe_make (E := E2) mMerge GMerge (hr2.mono (by decide)) (by rfl) gMerge bMerge .nil (passes_call (takes_of rfl rfl rfl rfl) fun _ _ _ _ h => h) (pa_cons (pv 2) (pa_cons (pv 1) pa_nil)))) pa_nil)))
      (pss_cons (ps_expr (pe_bm PySem.F.plainAttrs_list PySem.F.slot_list_append PySem.F.type_list_append mt_append (pv 4) (pa_cons (pe_heard (k := 7) (t := tF_One_7 K) hG (by decide) T TB hcd hm hu2 (by rfl) (hr.mono (by decide)) (lamS_by (by show lamSB (defScope sOne) _ = true; decide +kernel)) rfl (fun _ _ _ _ _ => rfl)
          (fun A2 out2 s2 H2 E2 f2 c2 hr2 => pe_make (E := E2) mEnd GEnd (hr2.mono (by decide)) (by rfl) gEnd bEnd .nil (passes_call (takes_of rfl rfl rfl rfl) fun _ _ _ _ h => h) (pa_cons (pv 2) pa_nil))) pa_nil)))
      (pss_cons (ps_expr (pe_bm PySem.F.plainAttrs_list PySem.F.slot_list_append PySem.F.type_list_append mt_append (pv 4) (pa_cons (pe_heard (k := 7) (t := tF_One_8 K) hG (by decide) T TB hcd hm hu2 (by rfl) (hr.mono (by decide)) (lamS_by (by show lamSB (defScope sOne) _ = true; decide +kernel)) rfl (fun _ _ _ _ _ => rfl)
          (fun A2 out2 s2 H2 E2 f2 c2 hr2 => pe_make (E := E2) mOffer GOffer (hr2.mono (by decide)) (by rfl) gOffer bOffer .nil (passes_call (takes_of rfl rfl rfl rfl) fun _ _ _ _ h => h) (pa_cons (pv 2) pa_nil))) pa_nil)))
      (pss_cons (ps_expr (pe_bm PySem.F.plainAttrs_list PySem.F.slot_list_append PySem.F.type_list_append mt_append (pv 4) (pa_cons (pe_heard (k := 7) (t := tF_One_9 K) hG (by decide) T TB hcd hm hu2 (by rfl) (hr.mono (by decide)) (lamS_by (by show lamSB (defScope sOne) _ = true; decide +kernel)) rfl (fun _ _ _ _ _ => rfl)
          (fun A2 out2 s2 H2 E2 f2 c2 hr2 => pe_make (E := E2) mLive GLive (hr2.mono (by decide)) (by rfl) gLive bLive .nil (passes_call (takes_of rfl rfl rfl rfl) fun _ _ _ _ h => h) (pa_cons (pv 2) pa_nil))) pa_nil)))
      (pss_cons (ps_expr (pe_bm PySem.F.plainAttrs_list PySem.F.slot_list_append PySem.F.type_list_append mt_append (pv 4) (pa_cons (pe_heard (k := 7) (t := tF_One_10 K) hG (by decide) T TB hcd hm hu2 (by rfl) (hr.mono (by decide)) (lamS_by (by show lamSB (defScope sOne) _ = true; decide +kernel)) rfl (fun _ _ _ _ _ => rfl)
          (fun A2 out2 s2 H2 E2 f2 c2 hr2 => pe_make (E := E2) mDown GDown (hr2.mono (by decide)) (by rfl) gDown bDown .nil (passes_call (takes_of rfl rfl rfl rfl) fun _ _ _ _ h => h) (pa_cons (pv 2) pa_nil))) pa_nil)))
      (pss_cons (ps_expr (pe_bm PySem.F.plainAttrs_list PySem.F.slot_list_append PySem.F.type_list_append mt_append (pv 4) (pa_cons (pe_heard (k := 7) (t := tF_One_11 K) hG (by decide) T TB hcd hm hu2 (by rfl) (hr.mono (by decide)) (lamS_by (by show lamSB (defScope sOne) _ = true; decide +kernel)) rfl (fun _ _ _ _ _ => rfl)
          (fun A2 out2 s2 H2 E2 f2 c2 hr2 => pe_make (E := E2) mDay GDay (hr2.mono (by decide)) (by rfl) gDay bDay .nil (passes_call (takes_of rfl rfl rfl rfl) fun _ _ _ _ h => h) (pa_cons (pv 2) pa_nil))) pa_nil)))
      (pss_cons (ps_expr (pe_bm PySem.F.plainAttrs_list PySem.F.slot_list_append PySem.F.type_list_append mt_append (pv 4) (pa_cons (pe_heard (k := 7) (t := tF_One_12 K) hG (by decide) T TB hcd hm hu2 (by rfl) (hr.mono (by decide)) (lamS_by (by show lamSB (defScope sOne) _ = true; decide +kernel)) rfl (fun _ _ _ _ _ => rfl)
          (fun A2 out2 s2 H2 E2 f2 c2 hr2 => pe_make (E := E2) mTry GTry (hr2.mono (by decide)) (by rfl) gTry bTry .nil (passes_call (takes_of rfl rfl rfl rfl) fun _ _ _ _ h => h) (pa_cons (pv 2) (pa_cons (pv 2) pa_nil)))) pa_nil)))
      (pss_cons (ps_expr (pe_bm PySem.F.plainAttrs_list PySem.F.slot_list_append PySem.F.type_list_append mt_append (pv 4) (pa_cons (pe_heard (k := 7) (t := tF_One_13 K) hG (by decide) T TB hcd hm hu2 (by rfl) (hr.mono (by decide)) (lamS_by (by show lamSB (defScope sOne) _ = true; decide +kernel)) rfl (fun _ _ _ _ _ => rfl)
          (fun A2 out2 s2 H2 E2 f2 c2 hr2 => pe_make (E := E2) mProbe GProbe (hr2.mono (by decide)) (by rfl) gProbe bProbe .nil (passes_call (takes_of rfl rfl rfl rfl) fun _ _ _ _ h => h) (pa_cons pe_int (pa_cons (pv 2) pa_nil)))) pa_nil)))
      (pss_cons (ps_expr (pe_bm PySem.F.plainAttrs_list PySem.F.slot_list_append PySem.F.type_list_append mt_append (pv 4) (pa_cons (pe_heard (k := 7) (t := tF_One_14 K) hG (by decide) T TB hcd hm hu2 (by rfl) (hr.mono (by decide)) (lamS_by (by show lamSB (defScope sOne) _ = true; decide +kernel)) rfl (fun _ _ _ _ _ => rfl)
          (fun A2 out2 s2 H2 E2 f2 c2 hr2 => pe_make (E := E2) mMeet GMeet (hr2.mono (by decide)) (by rfl) gMeet bMeet .nil (passes_call (takes_of rfl rfl rfl rfl) fun _ _ _ _ h => h) (pa_cons pe_int (pa_cons (pv 2) pa_nil)))) pa_nil)))
      (pss_cons (ps_if (pt_cmpR (op_neD hu) (pv 4) (pe_op op_mulL (pe_lst (pa_cons (pe_tup (pa_cons pe_str (pa_cons (pe_callB (call_repX hG hu) (by rfl) (T.fr "repr" (by decide)) PyProof.Rows.boot_repr (pa_cons (pv 2) pa_nil)) pa_nil))) pa_nil)) pe_int) (nomark _)) (pss_one (ps_ret pe_bl)) pss_nil)
      (pss_cons (ps_set (i := 4) scOne.nd rfl (.inl rfl) (pe_lst (pa_cons (pe_heard (k := 7) (t := tF_One_15 K) hG (by decide) T TB hcd hm hu2 (by rfl) (hr.mono (by decide)) (lamS_by (by show lamSB (defScope sOne) _ = true; decide +kernel)) rfl (fun _ _ _ _ _ => rfl)
          (fun A2 out2 s2 H2 E2 f2 c2 hr2 => pe_make (E := E2) mRedo GRedo (hr2.mono (by decide)) (by rfl) gRedo bRedo .nil (passes_call (takes_of rfl rfl rfl rfl) fun _ _ _ _ h => h) (pa_cons (pv 3) pa_nil))) pa_nil)))
      (pss_cons (ps_expr (pe_bm PySem.F.plainAttrs_list PySem.F.slot_list_append PySem.F.type_list_append mt_append (pv 4) (pa_cons (pe_heard (k := 7) (t := tF_One_16 K) hG (by decide) T TB hcd hm hu2 (by rfl) (hr.mono (by decide)) (lamS_by (by show lamSB (defScope sOne) _ = true; decide +kernel)) rfl (fun _ _ _ _ _ => rfl)
          (fun A2 out2 s2 H2 E2 f2 c2 hr2 => pe_make (E := E2) mShut GShut (hr2.mono (by decide)) (by rfl) gShut bShut .nil (passes_call (takes_of rfl rfl rfl rfl) fun _ _ _ _ h => h) (pa_cons (pv 3) pa_nil))) pa_nil)))
      (pss_one (ps_ret (pe_cmpR (op_eqD hu) (pv 4) (pe_op op_mulL (pe_lst (pa_cons (pe_tup (pa_cons pe_str (pa_cons (pe_callB (call_repX hG hu) (by rfl) (T.fr "repr" (by decide)) PyProof.Rows.boot_repr (pa_cons (pv 3) pa_nil)) pa_nil))) pa_nil)) pe_int) (nomark _)))))))))))))))))))))))))), ?_⟩
  rfl
end
end K9
set_option Elab.async false
set_option linter.all false
set_option maxRecDepth 100000
set_option maxHeartbeats 4000000
/-! _law_many_right: its code. -/
namespace K9
open PySem PySem.Spec PyProof.Rows L2 RV EV He EF EI Hd LamX NdefX
abbrev sMany : Stmt := top 68
abbrev scMany_N : List Str := ["_law_pen_here", "_law_odd", "_law_heard_here", "_law_due", "_law_far", "_law_low", "_law_high", "_law_one"]
theorem scMany : FnScope scMany_N ["_law_pen_here"] (defScope sMany) := ⟨rfl, rfl, rfl, by decide +kernel, rfl, by decide +kernel, by decide +kernel⟩
def tF_Many_0 (K : PySem.W.Frag) : XK → TE := fun E => Sk.tSK (ga K "Rise") (spDRise K) E (tCons (tC (.int 1)) (tCons (tVar 1) (tCons (tC (.int 2)) tNil)))
def tF_Many_1 (K : PySem.W.Frag) : XK → TE := fun E => Sk.tSK (ga K "Night") (spDNight K) E (tCons (tVar 1) (tCons (tVar 1) tNil))
def tF_Many_2 (K : PySem.W.Frag) : XK → TE := fun E => Sk.tSKK (ga K "Rise") (spDRise K) E (tCons (tC (.int 2)) (tCons (tC (.int 4)) tNil)) (tCons (tVar 1) tNil)
def tF_Many_3 (K : PySem.W.Frag) : XK → TE := fun E => Sk.tSK (ga K "Renew") (spDRenew K) E (tCons (tC (.int 3)) (tCons (tVar 4) tNil))
def tF_Many_4 (K : PySem.W.Frag) : XK → TE := fun E => Sk.tSKK (ga K "Renew") (spDRenew K) E (tCons (tC (.int 3)) (tCons (tC (.int 9)) tNil)) (tCons (tVar 4) tNil)
def tF_Many_5 (K : PySem.W.Frag) : XK → TE := fun E => Sk.tSK (ga K "Rise") (spDRise K) E (tCons (tVar 6) (tCons (tVar 5) tNil))
def tF_Many_6 (K : PySem.W.Frag) : XK → TE := fun E => Sk.tSK (ga K "Night") (spDNight K) E (tCons (tVar 5) (tCons (tVar 5) tNil))
def tF_Many_7 (K : PySem.W.Frag) : XK → TE := fun E => Sk.tSKK (ga K "Rise") (spDRise K) E (tCons (tVar 5) (tCons (tVar 6) tNil)) (tCons (tVar 6) tNil)
def tF_Many_8 (K : PySem.W.Frag) : XK → TE := fun E => tMake (ga K "Try") (spDTry K) [] E (tCons (tVar 6) (tCons (tVar 5) tNil))
def tF_Many_9 (K : PySem.W.Frag) : XK → TE := fun E => tMake (ga K "Meet") (spDMeet K) [] E (tCons (tVar 6) (tCons (tVar 5) tNil))
def tF_Many_10 (K : PySem.W.Frag) : XK → TE := fun E => tMake (ga K "Probe") (spDProbe K) [] E (tCons (tVar 5) (tCons (tVar 5) tNil))
def tF_Many_11 (K : PySem.W.Frag) : XK → TE := fun E => Sk.tSKK (ga K "Night") (spDNight K) E (tCons (tVar 5) tNil) (tCons (tVar 5) tNil)
def tF_Many_12 (K : PySem.W.Frag) : XK → TE := fun E => tMake (ga K "Probe") (spDProbe K) [] E (tCons (tVar 6) (tCons (tVar 5) tNil))
def tF_Many_13 (K : PySem.W.Frag) : XK → TE := fun E => Sk.tSKK (ga K "Rise") (spDRise K) E (tCons (tVar 5) (tCons (tVar 6) tNil)) (tCons (tVar 5) tNil)
def tF_Many_14 (K : PySem.W.Frag) : XK → TE := fun E => Sk.tSKK (ga K "Renew") (spDRenew K) E (tCons (tVar 5) (tCons (tC (.int 200)) tNil)) (tCons (tVar 5) tNil)
def tF_Many_15 (K : PySem.W.Frag) : XK → TE := fun E => tMake (ga K "Merge") (spDMerge K) [] E (tCons (tVar 5) (tCons (tC (.str "zz")) tNil))
def tMany (K : PySem.W.Frag) : TS := (tSeq (tAsg (tCall spPick [] E0 (tCons (tVar 0) (tCons (tLst (tCons (tC .non) (tCons (tC (.int 0)) (tCons (tC (.int 7)) (tCons (tUn (rU fun i => V.int (-i)) (tC (.int 1))) (tCons (tC (.bl true)) (tCons (tC (.str "1")) (tCons (tTup (tCons (tC (.int 1)) tNil)) (tCons (tLst1 (tCons (tC (.int 2)) tNil)) (tCons (tOp (rI CPow fun i j => V.int (i ^ j.toNat)) (tC (.int 10)) (tC (.int 30))) tNil)))))))))) tNil))) (gName 1))
  (tSeq (tAsg (tLst (tCons (tHd K (tF_Many_0 K)) tNil)) (gName 2))
  (tSeq (tDrop (tBM K "list" rAppend (tVar 2) (tCons (tHd K (tF_Many_1 K)) tNil)))
  (tSeq (tDrop (tBM K "list" rAppend (tVar 2) (tCons (tHd K (tF_Many_2 K)) tNil)))
  (tSeq (tAsg (tOp rCat (tOp rMulL (tLst (tCons (tTup (tCons (tC (.str "line")) (tCons (tCB rRepX (tCons (tVar 1) tNil)) tNil))) tNil)) (tC (.int 2))) (tLst (tCons (tIf (tB (tIsN (tVar 1))) (tC (.str "made")) (tTup (tCons (tC (.str "line")) (tCons (tCB rRepX (tCons (tVar 1) tNil)) tNil)))) tNil))) (gName 3))
  (tSeq (tIfS (tTest (tOp (rNeD K) (tVar 2) (tVar 3))) (tRet (tC (.bl false))) tNext)
  (tSeq (tAsg (tCall spPick [] E0 (tCons (tVar 0) (tCons (tLst (tCons (tC .non) (tCons (tC (.int 0)) (tCons (tC (.int 201)) (tCons (tC (.bl true)) (tCons (tC (.str "5")) (tCons (tTup (tCons (tC (.int 5)) tNil)) (tCons (tOp (rI CPow fun i j => V.int (i ^ j.toNat)) (tC (.int 10)) (tC (.int 30))) tNil)))))))) tNil))) (gName 4))
  (tSeq (tAsg (tLst (tCons (tHd K (tF_Many_3 K)) tNil)) (gName 2))
  (tSeq (tDrop (tBM K "list" rAppend (tVar 2) (tCons (tHd K (tF_Many_4 K)) tNil)))
  (tSeq (tIfS (tTest (tOp (rNeD K) (tVar 2) (tLst (tCons (tTup (tCons (tC (.str "day")) (tCons (tCB rRepX (tCons (tVar 4) tNil)) tNil))) (tCons (tIf (tB (tIsN (tVar 4))) (tC (.str "made")) (tTup (tCons (tC (.str "day")) (tCons (tCB rRepX (tCons (tVar 4) tNil)) tNil)))) tNil))))) (tRet (tC (.bl false))) tNext)
  (tSeq (tAsg (tOp rPl (tC (.int 1)) (tCall spDraw [] E0 (tCons (tVar 0) (tCons (tC (.int 5)) tNil)))) (gName 5))
  (tSeq (tAsg (tOp rPl (tOp rPl (tVar 5) (tC (.int 1))) (tCall spDraw [] E0 (tCons (tVar 0) (tCons (tOp rMi (tC (.int 6)) (tVar 5)) tNil)))) (gName 6))
  (tSeq (tAsg (tLst (tCons (tHd K (tF_Many_5 K)) tNil)) (gName 2))
  (tSeq (tDrop (tBM K "list" rAppend (tVar 2) (tCons (tHd K (tF_Many_6 K)) tNil)))
  (tSeq (tDrop (tBM K "list" rAppend (tVar 2) (tCons (tHd K (tF_Many_7 K)) tNil)))
  (tSeq (tDrop (tBM K "list" rAppend (tVar 2) (tCons (tHd K (tF_Many_8 K)) tNil)))
  (tSeq (tDrop (tBM K "list" rAppend (tVar 2) (tCons (tHd K (tF_Many_9 K)) tNil)))
  (tSeq (tDrop (tBM K "list" rAppend (tVar 2) (tCons (tHd K (tF_Many_10 K)) tNil)))
  (tSeq (tDrop (tBM K "list" rAppend (tVar 2) (tCons (tHd K (tF_Many_11 K)) tNil)))
  (tSeq (tIfS (tTest (tOp (rNeD K) (tVar 2) (tLc (iList K (tLst (tCons (tVar 5) (tCons (tVar 5) (tCons (tVar 6) (tCons (tVar 5) (tCons (tVar 5) (tCons (tVar 5) (tCons (tVar 5) tNil))))))))) (gName 7) tYes (tTup (tCons (tC (.str "line")) (tCons (tCB rStrI (tCons (tVar 7) tNil)) tNil))) [7]))) (tRet (tC (.bl false))) tNext)
  (tSeq (tAsg (tLst (tCons (tHd K (tF_Many_12 K)) tNil)) (gName 2))
  (tSeq (tDrop (tBM K "list" rAppend (tVar 2) (tCons (tHd K (tF_Many_13 K)) tNil)))
  (tSeq (tDrop (tBM K "list" rAppend (tVar 2) (tCons (tHd K (tF_Many_14 K)) tNil)))
  (tSeq (tDrop (tBM K "list" rAppend (tVar 2) (tCons (tHd K (tF_Many_15 K)) tNil)))
  (tRet (tOp (rEqD K) (tVar 2) (tOp rMulL (tLst (tCons (tC (.str "made")) tNil)) (tC (.int 4)))))))))))))))))))))))))))))
section
variable {P : Program} {w : World} {K : PySem.W.Frag} {mg : Str → Option Value} {base : Heap}
theorem code_many (T : KF P w K mg base) (TB : TabB base mg (cc K qMany).1 (cc K qMany).2) {f : Addr} {A : Around} {outer : List Env} {s : Shared} {H : Hp} {E : XK} {cdv : Value} (hcd : cdv = .ref (cc K qMany).1) (hG : A.guards = some []) (hr : Room 9 (A.deeper (envOfC "_law_many_right" (defScope sMany) s.heap.objs.size f cdv))) :
    ∃ t, PSs (cxOf CX0 P w K mg base scMany_N "_law_many_right" (defScope sMany) f cdv A outer s H E) (defBody sMany) t ∧ t = tMany K := by
  obtain ⟨fI, GI, bI, kI, gI⟩ := c_pick (w := w) T
  obtain ⟨fD, GD, bD, kD, gD⟩ := c_draw (w := w) T
  obtain ⟨GRise, mRise, gRise⟩ := m_Rise (w := w) T
  obtain ⟨GNight, mNight, gNight⟩ := m_Night (w := w) T
  obtain ⟨GRenew, mRenew, gRenew⟩ := m_Renew (w := w) T
  obtain ⟨fTry, GTry, bTry, mTry, gTry⟩ := m_Try (w := w) T
  obtain ⟨fMeet, GMeet, bMeet, mMeet, gMeet⟩ := m_Meet (w := w) T
  obtain ⟨fProbe, GProbe, bProbe, mProbe, gProbe⟩ := m_Probe (w := w) T
  obtain ⟨fMerge, GMerge, bMerge, mMerge, gMerge⟩ := m_Merge (w := w) T
  have hu := hr.units
  have hm : ((cc K qMany).2, qOf qMany) ∈ TL K := tl_mem (by decide)
  have hu2 := tl_one T (q := qMany) (by decide)
  refine ⟨_, PSs.nox
    (pss_cons (ps_set (i := 1) scMany.nd rfl (.inr rfl) (pe_call (E := E0) GI (hr.mono (by decide)) (by rfl) gI kI bI .nil pass0 (pa_cons (pv 0) (pa_cons (pe_lst (pa_cons pe_non (pa_cons pe_int (pa_cons pe_int (pa_cons (pe_un un_neg pe_int) (pa_cons pe_bl (pa_cons pe_str (pa_cons (pe_tup (pa_cons pe_int pa_nil)) (pa_cons (pe_lst1 (pa_cons pe_int pa_nil)) (pa_cons (pe_op op_pow pe_int pe_int) pa_nil)))))))))) pa_nil))))
      (pss_cons (ps_set (i := 2) scMany.nd rfl (.inl rfl) (pe_lst (pa_cons (pe_heard (k := 7) (t := tF_Many_0 K) hG (by decide) T TB hcd hm hu2 (by rfl) (hr.mono (by decide)) (lamS_by (by show lamSB (defScope sMany) _ = true; decide +kernel)) rfl (fun _ _ _ _ _ => rfl)
          (fun A2 out2 s2 H2 E2 f2 c2 hr2 => Sk.pe_sk (E := E2) mRise GRise (hr2.mono (by decide)) (by rfl) gRise (passes_call (takes_of rfl rfl rfl rfl) fun _ _ _ _ h => h) (pa_cons pe_int (pa_cons (pv 1) (pa_cons pe_int pa_nil))))) pa_nil)))
      (pss_cons (ps_expr (pe_bm PySem.F.plainAttrs_list PySem.F.slot_list_append PySem.F.type_list_append mt_append (pv 2) (pa_cons (pe_heard (k := 7) (t := tF_Many_1 K) hG (by decide) T TB hcd hm hu2 (by rfl) (hr.mono (by decide)) (lamS_by (by show lamSB (defScope sMany) _ = true; decide +kernel)) rfl (fun _ _ _ _ _ => rfl)
          (fun A2 out2 s2 H2 E2 f2 c2 hr2 => Sk.pe_sk (E := E2) mNight GNight (hr2.mono (by decide)) (by rfl) gNight (passes_call (takes_of rfl rfl rfl rfl) fun _ _ _ _ h => h) (pa_cons (pv 1) (pa_cons (pv 1) pa_nil)))) pa_nil)))
      (pss_cons (ps_expr (pe_bm PySem.F.plainAttrs_list PySem.F.slot_list_append PySem.F.type_list_append mt_append (pv 2) (pa_cons (pe_heard (k := 7) (t := tF_Many_2 K) hG (by decide) T TB hcd hm hu2 (by rfl) (hr.mono (by decide)) (lamS_by (by show lamSB (defScope sMany) _ = true; decide +kernel)) rfl (fun _ _ _ _ _ => rfl)
          (fun A2 out2 s2 H2 E2 f2 c2 hr2 => Sk.pe_skK (E := E2) mRise GRise (hr2.mono (by decide)) (by rfl) gRise (passes_call (takes_of rfl rfl rfl rfl) fun _ _ _ _ h => h) (pa_cons pe_int (pa_cons pe_int pa_nil)) (pk_cons (pv 1) pk_nil))) pa_nil)))
      (pss_cons (ps_set (i := 3) scMany.nd rfl (.inl rfl) (pe_op op_cat (pe_op op_mulL (pe_lst (pa_cons (pe_tup (pa_cons pe_str (pa_cons (pe_callB (call_repX hG hu) (by rfl) (T.fr "repr" (by decide)) PyProof.Rows.boot_repr (pa_cons (pv 1) pa_nil)) pa_nil))) pa_nil)) pe_int) (pe_lst (pa_cons (pe_ifExp (pt_cmp (pc_isN (pv 1))) pe_str (pe_tup (pa_cons pe_str (pa_cons (pe_callB (call_repX hG hu) (by rfl) (T.fr "repr" (by decide)) PyProof.Rows.boot_repr (pa_cons (pv 1) pa_nil)) pa_nil)))) pa_nil))))
      (pss_cons (ps_if (pt_cmpR (op_neD hu) (pv 2) (pv 3) (nomark _)) (pss_one (ps_ret pe_bl)) pss_nil)
      (pss_cons (ps_set (i := 4) scMany.nd rfl (.inr rfl) (pe_call (E := E0) GI (hr.mono (by decide)) (by rfl) gI kI bI .nil pass0 (pa_cons (pv 0) (pa_cons (pe_lst (pa_cons pe_non (pa_cons pe_int (pa_cons pe_int (pa_cons pe_bl (pa_cons pe_str (pa_cons (pe_tup (pa_cons pe_int pa_nil)) (pa_cons (pe_op op_pow pe_int pe_int) pa_nil)))))))) pa_nil))))
      (pss_cons (ps_set (i := 2) scMany.nd rfl (.inl rfl) (pe_lst (pa_cons (pe_heard (k := 7) (t := tF_Many_3 K) hG (by decide) T TB hcd hm hu2 (by rfl) (hr.mono (by decide)) (lamS_by (by show lamSB (defScope sMany) _ = true; decide +kernel)) rfl (fun _ _ _ _ _ => rfl)
          (fun A2 out2 s2 H2 E2 f2 c2 hr2 => Sk.pe_sk (E := E2) mRenew GRenew (hr2.mono (by decide)) (by rfl) gRenew (passes_call (takes_of rfl rfl rfl rfl) fun _ _ _ _ h => h) (pa_cons pe_int (pa_cons (pv 4) pa_nil)))) pa_nil)))
      (pss_cons (ps_expr (pe_bm PySem.F.plainAttrs_list PySem.F.slot_list_append PySem.F.type_list_append mt_append (pv 2) (pa_cons (pe_heard (k := 7) (t := tF_Many_4 K) hG (by decide) T TB hcd hm hu2 (by rfl) (hr.mono (by decide)) (lamS_by (by show lamSB (defScope sMany) _ = true; decide +kernel)) rfl (fun _ _ _ _ _ => rfl)
          (fun A2 out2 s2 H2 E2 f2 c2 hr2 => Sk.pe_skK (E := E2) mRenew GRenew (hr2.mono (by decide)) (by rfl) gRenew (passes_call (takes_of rfl rfl rfl rfl) fun _ _ _ _ h => h) (pa_cons pe_int (pa_cons pe_int pa_nil)) (pk_cons (pv 4) pk_nil))) pa_nil)))
      (pss_cons (ps_if (pt_cmpR (op_neD hu) (pv 2) (pe_lst (pa_cons (pe_tup (pa_cons pe_str (pa_cons (pe_callB (call_repX hG hu) (by rfl) (T.fr "repr" (by decide)) PyProof.Rows.boot_repr (pa_cons (pv 4) pa_nil)) pa_nil))) (pa_cons (pe_ifExp (pt_cmp (pc_isN (pv 4))) pe_str (pe_tup (pa_cons pe_str (pa_cons (pe_callB (call_repX hG hu) (by rfl) (T.fr "repr" (by decide)) PyProof.Rows.boot_repr (pa_cons (pv 4) pa_nil)) pa_nil)))) pa_nil))) (nomark _)) (pss_one (ps_ret pe_bl)) pss_nil)
      (pss_cons (ps_set (i := 5) scMany.nd rfl (.inr rfl) (pe_op op_add pe_int (pe_call (E := E0) GD (hr.mono (by decide)) (by rfl) gD kD bD .nil pass0 (pa_cons (pv 0) (pa_cons pe_int pa_nil)))))
      (pss_cons (ps_set (i := 6) scMany.nd rfl (.inr rfl) (pe_op op_add (pe_op op_add (pv 5) pe_int) (pe_call (E := E0) GD (hr.mono (by decide)) (by rfl) gD kD bD .nil pass0 (pa_cons (pv 0) (pa_cons (pe_op op_sub pe_int (pv 5)) pa_nil)))))
      (pss_cons (ps_set (i := 2) scMany.nd rfl (.inl rfl) (pe_lst (pa_cons (pe_heard (k := 7) (t := tF_Many_5 K) hG (by decide) T TB hcd hm hu2 (by rfl) (hr.mono (by decide)) (lamS_by (by show lamSB (defScope sMany) _ = true; decide +kernel)) rfl (fun _ _ _ _ _ => rfl)
          (fun A2 out2 s2 H2 E2 f2 c2 hr2 => Sk.pe_sk (E := E2) mRise GRise (hr2.mono (by decide)) (by rfl) gRise (passes_call (takes_of rfl rfl rfl rfl) fun _ _ _ _ h => h) (pa_cons (pv 6) (pa_cons (pv 5) pa_nil)))) pa_nil)))
      (pss_cons (ps_expr (pe_bm PySem.F.plainAttrs_list PySem.F.slot_list_append PySem.F.type_list_append mt_append (pv 2) (pa_cons (pe_heard (k := 7) (t := tF_Many_6 K) hG (by decide) T TB hcd hm hu2 (by rfl) (hr.mono (by decide)) (lamS_by (by show lamSB (defScope sMany) _ = true; decide +kernel)) rfl (fun _ _ _ _ _ => rfl)
          (fun A2 out2 s2 H2 E2 f2 c2 hr2 => Sk.pe_sk (E := E2) mNight GNight (hr2.mono (by decide)) (by rfl) gNight (passes_call (takes_of rfl rfl rfl rfl) fun _ _ _ _ h => h) (pa_cons (pv 5) (pa_cons (pv 5) pa_nil)))) pa_nil)))
      (pss_cons (ps_expr (pe_bm PySem.F.plainAttrs_list PySem.F.slot_list_append PySem.F.type_list_append mt_append (pv 2) (pa_cons (pe_heard (k := 7) (t := tF_Many_7 K) hG (by decide) T TB hcd hm hu2 (by rfl) (hr.mono (by decide)) (lamS_by (by show lamSB (defScope sMany) _ = true; decide +kernel)) rfl (fun _ _ _ _ _ => rfl)
          (fun A2 out2 s2 H2 E2 f2 c2 hr2 => Sk.pe_skK (E := E2) mRise GRise (hr2.mono (by decide)) (by rfl) gRise (passes_call (takes_of rfl rfl rfl rfl) fun _ _ _ _ h => h) (pa_cons (pv 5) (pa_cons (pv 6) pa_nil)) (pk_cons (pv 6) pk_nil))) pa_nil)))
      (pss_cons (ps_expr (pe_bm PySem.F.plainAttrs_list PySem.F.slot_list_append PySem.F.type_list_append mt_append (pv 2) (pa_cons (pe_heard (k := 7) (t := tF_Many_8 K) hG (by decide) T TB hcd hm hu2 (by rfl) (hr.mono (by decide)) (lamS_by (by show lamSB (defScope sMany) _ = true; decide +kernel)) rfl (fun _ _ _ _ _ => rfl)
          (fun A2 out2 s2 H2 E2 f2 c2 hr2 => pe_make (E := E2) mTry GTry (hr2.mono (by decide)) (by rfl) gTry bTry .nil (passes_call (takes_of rfl rfl rfl rfl) fun _ _ _ _ h => h) (pa_cons (pv 6) (pa_cons (pv 5) pa_nil)))) pa_nil)))
      (pss_cons (ps_expr (pe_bm PySem.F.plainAttrs_list PySem.F.slot_list_append PySem.F.type_list_append mt_append (pv 2) (pa_cons (pe_heard (k := 7) (t := tF_Many_9 K) hG (by decide) T TB hcd hm hu2 (by rfl) (hr.mono (by decide)) (lamS_by (by show lamSB (defScope sMany) _ = true; decide +kernel)) rfl (fun _ _ _ _ _ => rfl)
          (fun A2 out2 s2 H2 E2 f2 c2 hr2 => pe_make (E := E2) mMeet GMeet (hr2.mono (by decide)) (by rfl) gMeet bMeet .nil (passes_call (takes_of rfl rfl rfl rfl) fun _ _ _ _ h => h) (pa_cons (pv 6) (pa_cons (pv 5) pa_nil)))) pa_nil)))
      (pss_cons (ps_expr (pe_bm PySem.F.plainAttrs_list PySem.F.slot_list_append PySem.F.type_list_append mt_append (pv 2) (pa_cons (pe_heard (k := 7) (t := tF_Many_10 K) hG (by decide) T TB hcd hm hu2 (by rfl) (hr.mono (by decide)) (lamS_by (by show lamSB (defScope sMany) _ = true; decide +kernel)) rfl (fun _ _ _ _ _ => rfl)
          (fun A2 out2 s2 H2 E2 f2 c2 hr2 => pe_make (E := E2) mProbe GProbe (hr2.mono (by decide)) (by rfl) gProbe bProbe .nil (passes_call (takes_of rfl rfl rfl rfl) fun _ _ _ _ h => h) (pa_cons (pv 5) (pa_cons (pv 5) pa_nil)))) pa_nil)))
      (pss_cons (ps_expr (pe_bm PySem.F.plainAttrs_list PySem.F.slot_list_append PySem.F.type_list_append mt_append (pv 2) (pa_cons (pe_heard (k := 7) (t := tF_Many_11 K) hG (by decide) T TB hcd hm hu2 (by rfl) (hr.mono (by decide)) (lamS_by (by show lamSB (defScope sMany) _ = true; decide +kernel)) rfl (fun _ _ _ _ _ => rfl)
          (fun A2 out2 s2 H2 E2 f2 c2 hr2 => Sk.pe_skK (E := E2) mNight GNight (hr2.mono (by decide)) (by rfl) gNight (passes_call (takes_of rfl rfl rfl rfl) fun _ _ _ _ h => h) (pa_cons (pv 5) pa_nil) (pk_cons (pv 5) pk_nil))) pa_nil)))
      (pss_cons (ps_if (pt_cmpR (op_neD hu) (pv 2) (pe_lc (own := [("_law_one", 7)]) (g := gName 7) (tt := tYes) (te := (tTup (tCons (tC (.str "line")) (tCons (tCB rStrI (tCons (tVar 7) tNil)) tNil)))) rfl scMany.nd (pi_list (pe_lst (pa_cons (pv 5) (pa_cons (pv 5) (pa_cons (pv 6) (pa_cons (pv 5) (pa_cons (pv 5) (pa_cons (pv 5) (pa_cons (pv 5) pa_nil))))))))) (blkOk_by (N := scMany_N) (sc := defScope sMany) (by decide +kernel))
          (fun _ _ _ _ _ => pg_name (i := 7) scMany.nd rfl (.inl rfl)) (fun _ _ _ _ _ => pts_nil) (fun _ _ _ _ _ => (pe_tup (pa_cons pe_str (pa_cons (pe_callTy call_str_int (by rfl) (T.fr "str" (by decide)) boot_T (pa_cons (pv 7) pa_nil)) pa_nil))))) (nomark _)) (pss_one (ps_ret pe_bl)) pss_nil)
      (pss_cons (ps_set (i := 2) scMany.nd rfl (.inl rfl) (pe_lst (pa_cons (pe_heard (k := 7) (t := tF_Many_12 K) hG (by decide) T TB hcd hm hu2 (by rfl) (hr.mono (by decide)) (lamS_by (by show lamSB (defScope sMany) _ = true; decide +kernel)) rfl (fun _ _ _ _ _ => rfl)
          (fun A2 out2 s2 H2 E2 f2 c2 hr2 => pe_make (E := E2) mProbe GProbe (hr2.mono (by decide)) (by rfl) gProbe bProbe .nil (passes_call (takes_of rfl rfl rfl rfl) fun _ _ _ _ h => h) (pa_cons (pv 6) (pa_cons (pv 5) pa_nil)))) pa_nil)))
      (pss_cons (ps_expr (pe_bm PySem.F.plainAttrs_list PySem.F.slot_list_append PySem.F.type_list_append mt_append (pv 2) (pa_cons (pe_heard (k := 7) (t := tF_Many_13 K) hG (by decide) T TB hcd hm hu2 (by rfl) (hr.mono (by decide)) (lamS_by (by show lamSB (defScope sMany) _ = true; decide +kernel)) rfl (fun _ _ _ _ _ => rfl)
          (fun A2 out2 s2 H2 E2 f2 c2 hr2 => Sk.pe_skK (E := E2) mRise GRise (hr2.mono (by decide)) (by rfl) gRise (passes_call (takes_of rfl rfl rfl rfl) fun _ _ _ _ h => h) (pa_cons (pv 5) (pa_cons (pv 6) pa_nil)) (pk_cons (pv 5) pk_nil))) pa_nil)))
      (pss_cons (ps_expr (pe_bm PySem.F.plainAttrs_list PySem.F.slot_list_append PySem.F.type_list_append mt_append (pv 2) (pa_cons (pe_heard (k := 7) (t := tF_Many_14 K) hG (by decide) T TB hcd hm hu2 (by rfl) (hr.mono (by decide)) (lamS_by (by show lamSB (defScope sMany) _ = true; decide +kernel)) rfl (fun _ _ _ _ _ => rfl)
          (fun A2 out2 s2 H2 E2 f2 c2 hr2 => Sk.pe_skK (E := E2) mRenew GRenew (hr2.mono (by decide)) (by rfl) gRenew (passes_call (takes_of rfl rfl rfl rfl) fun _ _ _ _ h => h) (pa_cons (pv 5) (pa_cons pe_int pa_nil)) (pk_cons (pv 5) pk_nil))) pa_nil)))
      (pss_cons (ps_expr (pe_bm PySem.F.plainAttrs_list PySem.F.slot_list_append PySem.F.type_list_append mt_append (pv 2) (pa_cons (pe_heard (k := 7) (t := tF_Many_15 K) hG (by decide) T TB hcd hm hu2 (by rfl) (hr.mono (by decide)) (lamS_by (by show lamSB (defScope sMany) _ = true; decide +kernel)) rfl (fun _ _ _ _ _ => rfl)
          (fun A2 out2 s2 H2 E2 f2 c2 hr2 => pe_make (E := E2) mMerge GMerge (hr2.mono (by decide)) (by rfl) gMerge bMerge .nil (passes_call (takes_of rfl rfl rfl rfl) fun _ _ _ _ h => h) (pa_cons (pv 5) (pa_cons pe_str pa_nil)))) pa_nil)))
      (pss_one (ps_ret (pe_cmpR (op_eqD hu) (pv 2) (pe_op op_mulL (pe_lst (pa_cons pe_str pa_nil)) pe_int) (nomark _)))))))))))))))))))))))))))), ?_⟩
  rfl
end
end K9
set_option Elab.async false
set_option linter.all false
set_option maxRecDepth 100000
set_option maxHeartbeats 1000000
/-! Cut(), str(Cut()). -/
namespace Oo
open PySem PySem.Spec PyProof.Rows L2 PySem.W
/-- a class whose instances are made without an own __init__ -/
structure Mk0 (K : Frag) (C : Addr) : Prop where
  makes : makesIn K C = true
  init : findIn K (.ref C) "__init__" = some (some (.builtin "object.__init__"))
  top : mroIn K C (.type "object") = some true
  kp : keepIn K (.ref C) = true
section
variable {X : Cx} {C : Addr} {x : Str} {p1 pos : Pos}
def tNew00 (C : Addr) : TE := fun _ H Q => ∀ y dx, H y = none → H dx = none → dx ≠ y → Q (.ref y) (upd (upd H dx (.own y)) y (.ins C dx []))
theorem pe_new00 (M : Mk0 X.K C) (hg : Gl X x) (hm : X.mg x = some (.ref C)) (hd : (x == ("__debug__" : Str)) = false := by decide) : PE X (.Call (.Name x p1) [] [] pos) (tNew00 C) := by
  refine ⟨fun pins s σ H Q I h => ?_⟩
  refine wpAny_Call_Name_kw (ld_glob I hg hm ?_ hd)
  refine callWith_K0 (first := []) I.kIn M.kp (wpAny_call (make_map0 I.kIn M.makes M.init (fun self => Looks.of_pure (oi_bind self)) ?_))
  have hq := h (s.heap.objs.size + 1) s.heap.objs.size (I.hok.fresh (Nat.le_succ _)) (I.hok.fresh (Nat.le_refl _)) (Nat.ne_of_lt (Nat.lt_succ_self _))
  have I2 := Inv.made (C := C) I
  have X2 : X.K.In ((s.heap.push emptyDict).push (instObj C s.heap.objs.size)) := I2.kIn
  have ho : ((s.heap.push emptyDict).push (instObj C s.heap.objs.size)).get? (s.heap.objs.size + 1) = some (instObj C s.heap.objs.size) := by
    have := Heap.get?_push_size (s.heap.push emptyDict) (o := instObj C s.heap.objs.size) rfl
    rwa [Heap.size_push] at this
  have t1 : Looks (model X.prog X.w) ((s.heap.push emptyDict).push (instObj C s.heap.objs.size)) (typeOf (.ref (s.heap.objs.size + 1))) (.ref C) := NwA.type_at ho rfl
  have t2 : Looks (model X.prog X.w) ((s.heap.push emptyDict).push (instObj C s.heap.objs.size)) (isInstance (.ref (s.heap.objs.size + 1)) (.type "object")) true := t1.andThen (looks_mroIn X2 M.top)
  refine codeAny_call_builtin oi_plain entry_oi (@check_slot (model X.prog X.w) _ _ _ "object.__init__" "object" "__init__" (.ref (s.heap.objs.size + 1)) [] [] _ oi_kind oi_split t2 (NwA.oi_args_any (.ref (s.heap.objs.size + 1)) [] []) ?_)
  rw [oi_run]
  exact wpAny_pure (And.intro rfl ⟨.ref (s.heap.objs.size + 1), _, I2, rfl, hq⟩)
end
end Oo
namespace K9
open PySem PySem.Spec PyProof.Rows L2 RV EV He EF EI Hd LamX NdefX
abbrev gC (K : PySem.W.Frag) : Addr := ga K "Cut"
abbrev cAd (K : PySem.W.Frag) (m : Str) : Addr := ma K (gC K) m
def IsCut (K : PySem.W.Frag) (H : Hp) (p : Addr) : Prop := ∃ dx, H p = some (.ins (gC K) dx [])
theorem scNa : FnScope ["self"] ["self"] (defScope (dSt 5)) := ⟨rfl, rfl, rfl, by decide +kernel, rfl, by decide +kernel, by decide +kernel⟩
theorem scSo : FnScope ["self"] ["self"] (defScope (dSt 6)) := ⟨rfl, rfl, rfl, by decide +kernel, rfl, by decide +kernel, by decide +kernel⟩
abbrev scSt_N : List Str := ["self", "told", "part"]
theorem scSt : FnScope scSt_N ["self"] (defScope (dSt 3)) := ⟨rfl, rfl, rfl, by decide +kernel, rfl, by decide +kernel, by decide +kernel⟩
def spNa : Sp := fun vs H Q _ => ∃ p, vs = [.ref p] ∧ ∀ t, H t = none → Q (.ref t) (upd H t (.tup []))
def spSo : Sp := fun vs H Q _ => ∃ p, vs = [.ref p] ∧ Q .non H
def spCs (K : PySem.W.Frag) : Sp := fun vs H Q _ => ∃ p, vs = [.ref p] ∧ IsCut K H p ∧ ∀ H', Same H H' → Q (.str "cut") H'
section
variable {P : Program} {w : World} {K : PySem.W.Frag} {mg : Str → Option Value} {base : Heap}
theorem mk_cut (T : KF P w K mg base) : Oo.Mk0 K (gC K) ∧ ∃ t, Con K (gC K) "KIND" (.str "cut") (.str "cut" t) := by
  obtain ⟨h1, h⟩ := ba T.cut
  obtain ⟨h2, h⟩ := ba h
  obtain ⟨h3, h4⟩ := ba h
  refine ⟨⟨h1, eqO_ok h2, of_decide_eq_true h3, T.kc⟩, ?_⟩
  unfold kindB at h4
  split at h4
  · rename_i y t e
    obtain ⟨e1, e2⟩ := ba h4
    have := of_decide_eq_true e1
    subst this
    exact ⟨t, e, ⟨t, rfl⟩, eqO_ok e2, by decide +kernel⟩
  · cases h4
theorem m_named (T : KF P w K mg base) : ∃ fd, FnOk P w K mg base CX0 1 (cAd K "named") fd ["self"] spNa ∧ L2.Binds K fd ["self"] [] ∧ Meth K (gC K) "named" (cAd K "named") := by
  obtain ⟨m, fd, F⟩ := T.dd ("named", 5) (by decide)
  refine ⟨fd, F.ok scNa (fun vs H Q E h => ?_) (fun cdv A outer s H vs Q E hr h => ?_), FunD.bindsN F fun _ _ _ _ _ _ us hl => match us, hl with | [_], _ => rfl, m⟩
  · obtain ⟨p, rfl, _⟩ := h
    rfl
  · obtain ⟨p, rfl, k⟩ := h
    exact ⟨_, PSs.nox (pss_one (ps_ret (pe_tup pa_nil))), by show 0 ≤ sizeLine; decide, k⟩
theorem m_stop (T : KF P w K mg base) : ∃ fd, FnOk P w K mg base CX0 1 (cAd K "stop") fd ["self"] spSo ∧ L2.Binds K fd ["self"] [] ∧ Meth K (gC K) "stop" (cAd K "stop") := by
  obtain ⟨m, fd, F⟩ := T.dd ("stop", 6) (by decide)
  refine ⟨fd, F.ok scSo (fun vs H Q E h => ?_) (fun cdv A outer s H vs Q E hr h => ?_), FunD.bindsN F fun _ _ _ _ _ _ us hl => match us, hl with | [_], _ => rfl, m⟩
  · obtain ⟨p, rfl, _⟩ := h
    rfl
  · obtain ⟨p, rfl, k⟩ := h
    exact ⟨_, PSs.nox (pss_one (ps_ret pe_non)), k⟩
theorem m_str (T : KF P w K mg base) : ∃ fd, FnOk P w K mg base CX0 2 (cAd K "__str__") fd ["self"] (spCs K) ∧ L2.Binds K fd ["self"] [] ∧ Meth K (gC K) "__str__" (cAd K "__str__") := by
  obtain ⟨m, fd, F⟩ := T.dd ("__str__", 3) (by decide)
  obtain ⟨fN, GN, bN, mN⟩ := m_named (w := w) T
  obtain ⟨fS, GS, bS, mS⟩ := m_stop (w := w) T
  obtain ⟨_, tk, con⟩ := mk_cut T
  refine ⟨fd, F.ok scSt (fun vs H Q E h => ?_) (fun cdv A outer s H vs Q E hr h => ?_), FunD.bindsN F fun _ _ _ _ _ _ us hl => match us, hl with | [_], _ => rfl, m⟩
  · obtain ⟨p, rfl, _⟩ := h
    rfl
  · obtain ⟨p, rfl, ⟨dx, hp⟩, k⟩ := h
    refine ⟨_, PSs.nox (pss_cons (ps_set (i := 1) scSt.nd rfl (.inl rfl) (pe_lst (pa_cons (pe_con (pv 0) rfl) (StX.pa_star
        (pe_lc (own := [("part", 2)]) (g := gName 2) (tt := tYes) (te := tCB (fun xs H Q => ∃ a, xs = [V.str a] ∧ Q (.str a) H) (tCons (tVar 2) tNil)) rfl scSt.nd (pi_tup (pe_meth0 (E := E0) (pv 0) T.cc mN GN (hr.mono (by decide)) bN .nil pass0)) (blkOk_by (N := scSt_N) (sc := defScope (dSt 3)) (by decide +kernel))
          (fun _ _ _ _ _ => pg_name (i := 2) scSt.nd rfl (.inl rfl)) (fun _ _ _ _ _ => pts_nil) (fun _ _ _ _ _ => pe_callTy SkE.call_str_str (by rfl) (T.fr "str" (by decide)) boot_T (pa_cons (pv 2) pa_nil))) pa_nil))))
      (pss_cons (ps_if (pt_cmp (pc_notN (pe_meth0 (E := E0) (pv 0) T.cc mS GS (hr.mono (by decide)) bS .nil pass0)))
        (pss_one (ps_set (i := 1) scSt.nd rfl (.inl rfl) (pe_lst (StX.pa_star (pv 1) (pa_cons pe_str (pa_cons (pe_callTy SkE.call_str_str (by rfl) (T.fr "str" (by decide)) boot_T (pa_cons (pe_meth0 (E := E0) (pv 0) T.cc mS GS (hr.mono (by decide)) bS .nil pass0) pa_nil)) pa_nil)))))) pss_nil)
      (pss_one (ps_ret (pe_join pe_str (pv 1)))))), ?_⟩
    refine ⟨_, rfl, p, gC K, dx, [], .str "cut", _, rfl, hp, T.cc, con, rfl, ?_⟩
    refine ⟨_, rfl, p, dx, _, rfl, hp, rfl, ?_⟩
    refine ⟨p, rfl, fun t nt => ⟨t, rfl, ⟨_, SqT.of upd_same⟩, fun D nD => ?_⟩⟩
    have s1 := same_new (o := .tup []) nt
    refine lc_it (walk_tup (K := K) (a := t) (xs := [])) (fun n H' => n = 0 → (Same (upd H t (.tup [])) H' ∧ H' D = some (.lst []))) (fun _ => ⟨same_new nD, upd_same⟩) (fun n H' hn q => SqT.of ((q (by simpa using hn)).1 _ _ upd_same)) (fun n x H1 H2 hn => absurd hn (by simp)) ?_
    intro H1 q
    obtain ⟨s2, hD⟩ := q rfl
    refine ⟨D, [], rfl, .inr (SqL.of hD), by show 1 ≤ sizeLine; decide, fun L nL => ?_⟩
    have s3 := s1.trans (s2.trans (same_new (o := .lst [V.str "cut"]) nL))
    refine ⟨_, rfl, p, dx, _, rfl, s3 _ _ hp, rfl, ?_⟩
    refine ⟨p, rfl, _, rfl, if_negB rfl ?_⟩
    refine ⟨⟨_, rfl⟩, _, rfl, " ", L, ["cut"], rfl, rfl, .inl (SqL.of upd_same), ?_, ?_⟩
    · decide +kernel
    · have e : Txt.join " " ["cut"] = "cut" := by decide +kernel
      rw [e]
      exact k _ s3
end
end K9
set_option Elab.async false
set_option linter.all false
set_option maxRecDepth 100000
set_option maxHeartbeats 1000000
/-! Statements of the law's defs, one behind another. -/
namespace K9
open PySem PySem.Spec PyProof.Rows L2 RV EV He EF EI Hd LamX NdefX
section
variable {K : PySem.W.Frag} {σ : L2.St} {H H0 : Hp} {D : Ends} {R : TS} {p a : Addr} {cs : List Int} {b g : Int} {tl te : TE} {n s : Nat} {Pr : V → PyData → Prop} {t : XK → TE} {o : Option Err} {h : Hdt} {hs : List Hdt} {L : Addr} {tt : TT}
theorem Pen.ext {H' : Hp} (P : Pen H p a cs b g) (k : ExtN H H') : Pen H' p a cs b g := ⟨k _ _ P.pn (fun _ z => nomatch z), k _ _ P.ce (fun _ z => nomatch z), P.b0, P.g0, P.ln⟩
theorem sq_pick (N : Pen H p a cs b g) (h0 : σ[0]? = some (some (.ref p))) (hb : b ≤ 990) (n0 : 0 < n) (n1 : n < 1000) (e : ER tl σ H (AtOdds H n Pr))
    (k : ∀ v d b' g' H', Odd H' v d → Pr v d → b' ≤ b + 1 → Pen H' p a cs b' g' → Same2 H H' p → R D (σ.set s (some v)) H') : tSeq (tPk s tl) R D σ H := pick_read (D := { D with nx := R D }) N h0 hb n0 n1 e k
theorem sq_first (hT : Tabs (TL K) H) (a : Hears K t σ H o) (ta : ToldAs H o h) (k : ∀ H0 H' L, ExtN H H0 → Run K H0 H' L [h] → R D (σ.set s (some (.ref L))) H') : tSeq (tHs K s t) R D σ H := s_first (D := { D with nx := R D }) hT a ta k
theorem sq_next (Rn : Run K H0 H L hs) (hi : σ[s]? = some (some (.ref L))) (hz : hs.length ≤ 1000) (a : Hears K t σ H0 o) (ta : ToldAs H0 o h) (k : ∀ H', Run K H0 H' L (hs ++ [h]) → R D σ H') : tSeq (tAp K s t) R D σ H := s_next (D := { D with nx := R D }) Rn hi hz a ta k
theorem sq_ne (h : TestR tt σ H false) (k : ∀ H', Same H H' → R D σ H') : tSeq (tIfS tt (tRet (tC (.bl false))) tNext) R D σ H := h.ifS (D := { D with nx := R D }) (fun z => nomatch z) fun _ H' s => k H' s
theorem rt_eq {Q : VK} (hD : D.rt = Q) (e : ER te σ H (IsV (.bl true))) (k : ∀ H', Same H H' → Q (.bl true) H') : tRet te D σ H := by
  subst hD
  exact e.go fun v H' s ev => by rw [show v = V.bl true from ev]; exact k H' s
end
section
variable {H : Hp} {v : V} {d : PyData} {lo : Int}
theorem e_fix (h : fixB v = false) : ckFix v = some (("BadFix", "value", v) : Err) := by unfold ckFix; rw [h]; rfl
theorem e_line (h : inB v lo 6 = false) : ckLine lo v = some (("NoLine", "line", v) : Err) := by unfold ckLine; rw [h]; rfl
theorem e_day (h : inB v lo 200 = false) : ckDay lo v = some (("NoDay", "day", v) : Err) := by unfold ckDay; rw [h]; rfl
theorem k_fix {x : Str} (h : isFixB x = true) : ckFix (.str x) = none := by unfold ckFix; rw [show fixB (.str x) = true from h]; rfl
theorem k_line {i : Int} (h1 : lo ≤ i) (h2 : i ≤ 6) : ckLine lo (.int i) = none := by
  unfold ckLine
  rw [show inB (.int i) lo 6 = true by show (decide (lo ≤ i) && decide (i ≤ 6)) = true; rw [decide_eq_true h1, decide_eq_true h2]; rfl]
  rfl
theorem in_mono {lo' hi : Int} (h : inB v lo hi = false) (hl : lo ≤ lo') : inB v lo' hi = false := by
  cases v with
  | int i =>
    unfold inB at h ⊢
    simp only [Bool.and_eq_false_iff, decide_eq_false_iff_not] at h ⊢
    omega
  | _ => rfl
theorem told_fix (o : Odd H v d) (r : repB d = true) : ToldAs H (some ("BadFix", "value", v)) (some ("fix", d.shown)) := ⟨("BadFix", "value", "fix"), by decide, rfl, rfl, rfl, d, o, r, rfl⟩
theorem told_line (o : Odd H v d) (r : repB d = true) : ToldAs H (some ("NoLine", "line", v)) (some ("line", d.shown)) := ⟨("NoLine", "line", "line"), by decide, rfl, rfl, rfl, d, o, r, rfl⟩
theorem told_day (o : Odd H v d) (r : repB d = true) : ToldAs H (some ("NoDay", "day", v)) (some ("day", d.shown)) := ⟨("NoDay", "day", "day"), by decide, rfl, rfl, rfl, d, o, r, rfl⟩
theorem told_deed (o : Odd H v d) (r : repB d = true) : ToldAs H (some ("BadDeed", "at", v)) (some ("deed", d.shown)) := ⟨("BadDeed", "at", "deed"), by decide, rfl, rfl, rfl, d, o, r, rfl⟩
theorem told_if {c : Prop} [Decidable c] {o : Option Err} {h : Hdt} (t : ToldAs H o h) : ToldAs H (if c then none else o) (if c then none else h) := by
  by_cases e : c
  · rw [if_pos e, if_pos e]; trivial
  · rw [if_neg e, if_neg e]; exact t
theorem ok_tag {t : Str} (ht : PyData.strOk t = true) (r : repB d = true) : okH (some (t, d.shown)) = true := by
  obtain ⟨_, h⟩ := ba r
  obtain ⟨_, h⟩ := ba h
  obtain ⟨_, h⟩ := ba h
  show (PyData.strOk t && PyData.strOk d.shown) = true
  rw [ht, h]
  rfl
theorem ok_if {c : Prop} [Decidable c] {h : Hdt} (r : okH h = true) : okH (if c then none else h) = true := by
  by_cases e : c
  · rw [if_pos e]; rfl
  · rw [if_neg e]; exact r
def PFix (v : V) (d : PyData) : Prop := repB d = true ∧ fixB v = false
def PLine (v : V) (d : PyData) : Prop := repB d = true ∧ inB v 1 6 = false
def PDay (v : V) (d : PyData) : Prop := repB d = true ∧ inB v 1 200 = false
def POdd (v : V) (d : PyData) : Prop := repB d = true ∧ inB v 1 6 = false ∧ (v ≠ .non → stopB v [2, 4] = false)
def PFar (v : V) (d : PyData) : Prop := repB d = true ∧ inB v 4 200 = false ∧ (v ≠ .non → stopB v [3, 9] = false)
end
end K9
set_option Elab.async false
set_option linter.all false
set_option maxRecDepth 100000
set_option maxHeartbeats 1000000
/-! A def that is only called where no repr is under way, its code object known. -/
namespace Gd
open PySem PySem.Spec PyProof.Rows L2
section
variable {CX : CXT} {P : Program} {w : World} {K : PySem.W.Frag} {mg : Str → Option Value} {base : Heap} {x qual : Str} {pm0 : Arguments} {body : List Stmt} {scope : Scope} {f : Addr} {N ps : List Str} {k : Nat} {sp : Sp} {oc : Value} {od : Option Addr} {dV kV doc pm cdv ct : Value} {an : Option Addr} {osl : Array (Option Value)}
/-- the same of a def whose code object is known -/
theorem ofK (lk : K.lookup f = some ⟨oc, od, .func (PySem.W.fnOf x qual pm0 body scope dV kV doc pm an cdv ct), osl⟩) (hcd : PySem.W.codeIn K cdv qual = true) (S : FnScope N ps scope) (len : ∀ vs H Q E, sp vs H Q E → vs.length = ps.length)
    (hbody : ∀ (B : Around) (out : List Env) (t : Shared) (H : Hp) (vs : List V) (Q : VK) (E : XK), B.guards = some [] → Room k (B.deeper (envOfC qual scope t.heap.objs.size f cdv)) → sp vs H Q E →
      ∃ r, PSs (cxOf CX P w K mg base N qual scope f cdv B out t H E) body r ∧ r { nx := fun _ H' => Q .non H', rt := Q } (start N vs) H) : FnG P w K mg base CX (k + 1) f (PySem.W.fnOf x qual pm0 body scope dV kV doc pm an cdv ct) ps sp := by
  refine ⟨len, fun B out t H as us vs Q E hG hR e0 hb r hsp => ?_⟩
  have KX : K.In t.heap := e0.mod.kin.keeps fun b o e => (e0.bs b o e).1
  have lim : t.heap.NoLimit := e0.mod.nolimit.keeps fun b o e => (e0.bs b o e).1
  have hkd : ∀ q ∈ ps.zip us, scope.names.lookup q.1 = some .local ∨ (scope.names.lookup q.1 = some .cell ∧ ((cellsFrom (t.heap.objs.size + 1) scope.names []).lookup q.1).isSome = true) := fun ⟨n, v⟩ hq => by
    rcases S.par n (List.of_mem_zip hq).1 with i | i
    · exact .inl i
    · exact .inr ⟨i, PySem.W.cellsFrom_some _ _ _ (.inl i)⟩
  refine codeAny_call_function hR.depth (KX _ _ lk) rfl S.co S.gen rfl (PySem.W.codeRec_of KX hcd) (hb _ _ _ _ ?_)
  refine wpAny_newFunctionEnv_cells S.kind hkd fun ev he t1 X => ?_
  subst he
  refine ⟨lim.keeps X.toInCall.keep, codeAny_func ?_⟩
  obtain ⟨r0, h0, hq⟩ := hbody B out t H vs Q E hG (hR.deeper _) hsp
  refine wpAny_mono (h0.run [] t1 (start N vs) H _ (inv_start S hR.hd e0 (len _ _ _ _ hsp) r X) hq) (fun fl t2 hs => ?_) fun e t2 hs => hs
  cases fl with
  | ret u => exact let ⟨v, _, H', J, rv, q⟩ := hs; ⟨v, H', J.os, J.bare, J.base, J.hok, rv, q⟩
  | next => exact let ⟨_, H', J, q⟩ := hs; ⟨V.non, H', J.os, J.bare, J.base, J.hok, (rfl : Value.none = Value.none), q⟩
  | brk => exact let ⟨_, _, _, q⟩ := hs; False.elim q
  | cont => exact let ⟨_, _, _, q⟩ := hs; False.elim q
end
end Gd
set_option Elab.async false
set_option linter.all false
set_option maxRecDepth 100000
set_option maxHeartbeats 4000000
/-! _law_one_right: what it tells. -/
namespace K9
open PySem PySem.Spec PyProof.Rows L2 RV EV He EF EI Hd LamX NdefX
def spOne (K : PySem.W.Frag) : Sp := fun vs H Q _ => ∃ p a cs b g, vs = [.ref p] ∧ Pen H p a cs b g ∧ b ≤ 900 ∧ Tabs (TL K) H ∧ ∀ b' g' H', b' ≤ b + 4 → Pen H' p a cs b' g' → Tabs (TL K) H' → Q (.bl true) H'
section
variable {P : Program} {w : World} {mg : Str → Option Value} {base : Heap} {K : PySem.W.Frag} {H : Hp} {Q : VK} {E : XK}
theorem read_one (T : KF P w K mg base) {vs : List V} (h : spOne K vs H Q E) : tOne K { nx := fun _ H' => Q .non H', rt := Q } (L2.start scOne_N vs) H := by
  obtain ⟨p, a, cs, b, g, rfl, N, hb, hT, k⟩ := h
  have e : L2.start scOne_N [.ref p] = [some (.ref p), none, none, none, none] := rfl
  rw [e]
  unfold tOne
  refine sq_pick N rfl (by omega) (by decide) (by decide) (erl_lst (Pr := PFix) (erl_cons (od_non ⟨by decide +kernel, by decide +kernel⟩)
      (erl_cons (od_int ⟨by decide +kernel, by decide +kernel⟩)
      (erl_cons (od_str (by decide +kernel) ⟨by decide +kernel, by decide +kernel⟩)
      (erl_cons (od_str (by decide +kernel) ⟨by decide +kernel, by decide +kernel⟩)
      (erl_cons (od_str (by decide +kernel) ⟨by decide +kernel, by decide +kernel⟩)
      (erl_cons (od_str (by decide +kernel) ⟨by decide +kernel, by decide +kernel⟩)
      (erl_cons (od_str (by decide +kernel) ⟨by decide +kernel, by decide +kernel⟩)
      (erl_cons (od_str (by decide +kernel) ⟨by decide +kernel, by decide +kernel⟩)
      (erl_cons (od_lst (.str .nil) fun p => ⟨by decide +kernel, rfl⟩)
      (erl_cons (od_tup (.str .nil) fun p => ⟨by decide +kernel, rfl⟩)
      (erl_cons (od_bl ⟨by decide +kernel, by decide +kernel⟩)
      (erl_cons (od_dic fun p => ⟨by decide +kernel, rfl⟩)
      erl_nil)))))))))))) (by decide)) fun v1 d1 b1 g1 H1 o1 q1 hb1 N1 k1 => ?_
  refine sq_pick N1 rfl (by omega) (by decide) (by decide) (erl_lst (Pr := PLine) (erl_cons (od_non ⟨by decide +kernel, by decide +kernel⟩)
      (erl_cons (od_int ⟨by decide +kernel, by decide +kernel⟩)
      (erl_cons (od_int ⟨by decide +kernel, by decide +kernel⟩)
      (erl_cons (od_neg ⟨by decide +kernel, by decide +kernel⟩)
      (erl_cons (od_bl ⟨by decide +kernel, by decide +kernel⟩)
      (erl_cons (od_str (by decide +kernel) ⟨by decide +kernel, by decide +kernel⟩)
      (erl_cons (od_tup (.int .nil) fun p => ⟨by decide +kernel, rfl⟩)
      (erl_cons (od_lst (.int .nil) fun p => ⟨by decide +kernel, rfl⟩)
      (erl_cons (od_dic fun p => ⟨by decide +kernel, rfl⟩)
      (erl_cons (od_pow ⟨by decide, by decide, by decide⟩ ⟨by decide +kernel, by decide +kernel⟩)
      erl_nil)))))))))) (by decide)) fun v2 d2 b2 g2 H2 o2 q2 hb2 N2 k2 => ?_
  refine sq_pick N2 rfl (by omega) (by decide) (by decide) (erl_lst (Pr := PDay) (erl_cons (od_non ⟨by decide +kernel, by decide +kernel⟩)
      (erl_cons (od_int ⟨by decide +kernel, by decide +kernel⟩)
      (erl_cons (od_int ⟨by decide +kernel, by decide +kernel⟩)
      (erl_cons (od_neg ⟨by decide +kernel, by decide +kernel⟩)
      (erl_cons (od_bl ⟨by decide +kernel, by decide +kernel⟩)
      (erl_cons (od_str (by decide +kernel) ⟨by decide +kernel, by decide +kernel⟩)
      (erl_cons (od_tup (.int .nil) fun p => ⟨by decide +kernel, rfl⟩)
      (erl_cons (od_lst (.int .nil) fun p => ⟨by decide +kernel, rfl⟩)
      (erl_cons (od_dic fun p => ⟨by decide +kernel, rfl⟩)
      (erl_cons (od_pow ⟨by decide, by decide, by decide⟩ ⟨by decide +kernel, by decide +kernel⟩)
      erl_nil)))))))))) (by decide)) fun v3 d3 b3 g3 H3 o3 q3 hb3 N3 k3 => ?_
  have o1 := (o1.pen N1 k2).pen N2 k3
  have o2 := o2.pen N2 k3
  have hT := pen_up (pen_up (pen_up hT N k1) N1 k2) N2 k3
  obtain ⟨r1, f1⟩ := q1
  obtain ⟨r2, l2⟩ := q2
  obtain ⟨r3, y3⟩ := q3
  have l22 := in_mono (lo' := 2) l2 (by decide)
  have ef := e_fix f1
  have el := e_line l2
  have el2 := e_line l22
  have ed := e_day y3
  clear k1 k2 k3 N N1 N2
  refine sq_first hT (hears_mk (as := [v1]) (ar_var rfl ar_nil) rfl (ao_cons o1 ao_nil) (o := (some (("BadFix", "value", v1) : Err))) ef) (told_fix o1 r1) fun A0 B0 L0 x0 R0 => ?_
  have o1 := o1.ext x0
  have o2 := o2.ext x0
  have o3 := o3.ext x0
  have N3 := N3.ext x0
  refine sq_next R0 rfl (by simp) (hears_mk (as := [v1]) (ar_var rfl ar_nil) rfl (ao_cons o1 ao_nil) (o := (some (("BadFix", "value", v1) : Err))) ef) (told_fix o1 r1) fun C0_1 R0 => ?_
  refine sq_next R0 rfl (by simp) (hears_mk (as := [v1, v2]) (ar_var rfl (ar_var rfl ar_nil)) rfl (ao_cons o1 (ao_cons o2 ao_nil)) (o := (some (("BadFix", "value", v1) : Err))) (by show thenE (ckFix v1) _ = _; rw [ef]; rfl)) (told_fix o1 r1) fun C0_2 R0 => ?_
  refine sq_next R0 rfl (by simp) (hears_drop (v := v2) (u := v1) rfl (ar_var rfl (ar_var rfl ar_nil)) (ao_cons o1 (ao_cons o2 ao_nil)) (o := (some (("BadFix", "value", v1) : Err))) (by show thenE (ckFix v1) _ = _; rw [ef]; rfl)) (told_fix o1 r1) fun C0_3 R0 => ?_
  refine sq_next R0 rfl (by simp) (hears_mk (as := [.int 2, v1]) (ar_c (ar_var rfl ar_nil)) rfl (ao_cons (.int 2) (ao_cons o1 ao_nil)) (o := if v1 = .non then none else (some (("BadFix", "value", v1) : Err))) (by show thenE (ckLine 1 (.int 2)) (ckUp v1) = _; rw [k_line (by decide) (by decide)]; show ckUp v1 = _; unfold ckUp; rw [ef])) (told_if (told_fix o1 r1)) fun C0_4 R0 => ?_
  have R0 : Run K A0 _ L0 [some ("fix", d1.shown), some ("fix", d1.shown), some ("fix", d1.shown), some ("fix", d1.shown), if v1 = .non then none else some ("fix", d1.shown)] := R0
  have o1 := o1.ext R0.ex
  have o2 := o2.ext R0.ex
  have o3 := o3.ext R0.ex
  have N3 := N3.ext R0.ex
  have kf : okH (some ("fix", d1.shown)) = true := ok_tag (by decide +kernel) r1
  have ki : okH (if v1 = .non then none else some ("fix", d1.shown)) = true := ok_if kf
  refine sq_ne (ne_test R0.at rfl (by simp [kf, ki]) (er_cat (er_mul (n := 4) (er_lst (era_cons (er_tag rfl o1 r1) era_nil) (by simp)) (by simp) (by simp) (by decide)) (er_lst (era_cons (er_ifN rfl er_made (er_tag rfl o1 r1)) era_nil) (by simp)) (by simp))) fun D0 s0 => ?_
  have o1 := o1.ext (Same.extN s0)
  have o2 := o2.ext (Same.extN s0)
  have o3 := o3.ext (Same.extN s0)
  have N3 := N3.ext (Same.extN s0)
  have hT := R0.tb.ext s0
  refine sq_first hT (hears_mk (as := [.str "f", v2]) (ar_c (ar_var rfl ar_nil)) rfl (ao_cons (.str (by decide +kernel)) (ao_cons o2 ao_nil)) (o := (some (("NoLine", "line", v2) : Err))) (by show thenE (ckFix (.str "f")) (ckLine 1 v2) = _; rw [k_fix (by decide +kernel)]; exact el)) (told_line o2 r2) fun A1 B1 L1 x1 R1 => ?_
  have o1 := o1.ext x1
  have o2 := o2.ext x1
  have o3 := o3.ext x1
  have N3 := N3.ext x1
  refine sq_next R1 rfl (by simp) (hears_mk (as := [v2, v1]) (ar_var rfl (ar_var rfl ar_nil)) rfl (ao_cons o2 (ao_cons o1 ao_nil)) (o := (some (("NoLine", "line", v2) : Err))) (by show thenE (ckLine 1 v2) _ = _; rw [el]; rfl)) (told_line o2 r2) fun C1_1 R1 => ?_
  refine sq_next R1 rfl (by simp) (hears_mk (as := [v2]) (ar_var rfl ar_nil) rfl (ao_cons o2 ao_nil) (o := (some (("NoLine", "line", v2) : Err))) el) (told_line o2 r2) fun C1_2 R1 => ?_
  refine sq_next R1 rfl (by simp) (hears_mk (as := [v2]) (ar_var rfl ar_nil) rfl (ao_cons o2 ao_nil) (o := (some (("NoLine", "line", v2) : Err))) el) (told_line o2 r2) fun C1_3 R1 => ?_
  refine sq_next R1 rfl (by simp) (hears_mk (as := [v2]) (ar_var rfl ar_nil) rfl (ao_cons o2 ao_nil) (o := (some (("NoLine", "line", v2) : Err))) el) (told_line o2 r2) fun C1_4 R1 => ?_
  refine sq_next R1 rfl (by simp) (hears_mk (as := [v2]) (ar_var rfl ar_nil) rfl (ao_cons o2 ao_nil) (o := (some (("NoLine", "line", v2) : Err))) el) (told_line o2 r2) fun C1_5 R1 => ?_
  refine sq_next R1 rfl (by simp) (hears_mk (as := [v2]) (ar_var rfl ar_nil) rfl (ao_cons o2 ao_nil) (o := (some (("NoLine", "line", v2) : Err))) el) (told_line o2 r2) fun C1_6 R1 => ?_
  refine sq_next R1 rfl (by simp) (hears_mk (as := [v2, v2]) (ar_var rfl (ar_var rfl ar_nil)) rfl (ao_cons o2 (ao_cons o2 ao_nil)) (o := (some (("NoLine", "line", v2) : Err))) (by show thenE (ckLine 1 v2) _ = _; rw [el]; rfl)) (told_line o2 r2) fun C1_7 R1 => ?_
  refine sq_next R1 rfl (by simp) (hears_mk (as := [.int 2, v2]) (ar_c (ar_var rfl ar_nil)) rfl (ao_cons (.int 2) (ao_cons o2 ao_nil)) (o := (some (("NoLine", "line", v2) : Err))) (by show thenE (ckLine 1 (.int 2)) (ckMate 2 v2) = _; rw [k_line (by decide) (by decide)]; show ckMate 2 v2 = _; unfold ckMate; rw [l2]; rfl)) (told_line o2 r2) fun C1_8 R1 => ?_
  refine sq_next R1 rfl (by simp) (hears_mk (as := [.int 1, v2]) (ar_c (ar_var rfl ar_nil)) rfl (ao_cons (.int 1) (ao_cons o2 ao_nil)) (o := (some (("NoLine", "line", v2) : Err))) (by show thenE (ckLine 1 (.int 1)) (ckLine 2 v2) = _; rw [k_line (by decide) (by decide)]; exact el2)) (told_line o2 r2) fun C1_9 R1 => ?_
  have R1 : Run K A1 _ L1 (List.replicate 10 [(some ("line", d2.shown) : Hdt)]).flatten := R1
  have o1 := o1.ext R1.ex
  have o2 := o2.ext R1.ex
  have o3 := o3.ext R1.ex
  have N3 := N3.ext R1.ex
  have kl : okH (some ("line", d2.shown)) = true := ok_tag (by decide +kernel) r2
  refine sq_ne (ne_test R1.at rfl (by simp [kl]) (er_mul (n := 10) (er_lst (era_cons (er_tag rfl o2 r2) era_nil) (by simp)) (by simp) (by simp) (by decide))) fun D1 s1 => ?_
  have o1 := o1.ext (Same.extN s1)
  have o2 := o2.ext (Same.extN s1)
  have o3 := o3.ext (Same.extN s1)
  have N3 := N3.ext (Same.extN s1)
  have hT := R1.tb.ext s1
  refine sq_first hT (hears_mk (as := [v3]) (ar_var rfl ar_nil) rfl (ao_cons o3 ao_nil) (o := (some (("NoDay", "day", v3) : Err))) ed) (told_day o3 r3) fun A2 B2 L2 x2 R2 => ?_
  have o1 := o1.ext x2
  have o2 := o2.ext x2
  have o3 := o3.ext x2
  have N3 := N3.ext x2
  refine sq_next R2 rfl (by simp) (hears_mk (as := [v3]) (ar_var rfl ar_nil) rfl (ao_cons o3 ao_nil) (o := (some (("NoDay", "day", v3) : Err))) ed) (told_day o3 r3) fun C2_1 R2 => ?_
  have R2 : Run K A2 _ L2 (List.replicate 2 [(some ("day", d3.shown) : Hdt)]).flatten := R2
  have o1 := o1.ext R2.ex
  have o2 := o2.ext R2.ex
  have o3 := o3.ext R2.ex
  have N3 := N3.ext R2.ex
  have ky : okH (some ("day", d3.shown)) = true := ok_tag (by decide +kernel) r3
  refine rt_eq rfl (eq_er R2.at rfl (by simp [ky]) (er_mul (n := 2) (er_lst (era_cons (er_tag rfl o3 r3) era_nil) (by simp)) (by simp) (by simp) (by decide))) fun D2 s2 => ?_
  exact k _ _ _ (by omega) (N3.ext (Same.extN s2)) (R2.tb.ext s2)
theorem ok_one (T : KF P w K mg base) (TB : TabB base mg (cc K qOne).1 (cc K qOne).2) : ∃ fd, Gd.FnG P w K mg base CX0 10 (ga K "_law_one_right") fd ["_law_pen_here"] (spOne K) ∧ L2.Binds K fd ["_law_pen_here"] [] ∧ PySem.W.keepIn K (.ref (ga K "_law_one_right")) = true ∧ mg "_law_one_right" = some (.ref (ga K "_law_one_right")) := by
  obtain ⟨fd, F, g⟩ := T.tops qOne (by decide)
  have b : L2.Binds K fd ["_law_pen_here"] [] := FunD.bindsN F fun _ _ _ _ _ _ us hl => match us, hl with | [_], _ => rfl
  have kp := F.kp
  obtain ⟨oc, od, dV, kV, doc, pm, an, cdv, ct, osl, rfl, lk, hcd, _, _⟩ := F.ex
  obtain ⟨c, rfl⟩ := He.codeIn_ref hcd
  have ec : (cc K qOne).1 = c := He.codeOf_eq (p := ("_law_one_right", none)) lk rfl
  refine ⟨_, Gd.ofK lk hcd scOne (fun vs H Q E h => ?_) (fun B out t H vs Q E hG hr h => ?_), b, kp, g⟩
  · obtain ⟨p, a, cs, b, g, rfl, _⟩ := h
    rfl
  · obtain ⟨r, hr', rfl⟩ := code_one (E := E) T TB (by rw [ec]) hG hr
    exact ⟨_, hr', read_one T (E := E) h⟩
end
end K9
set_option Elab.async false
set_option linter.all false
set_option maxRecDepth 100000
set_option maxHeartbeats 1000000
/-! Draws, lists of what is due made ahead, a comprehension over numbers. -/
namespace K9
open PySem PySem.Spec PyProof.Rows L2 RV EV He EF EI Hd LamX NdefX
theorem rep_small {i : Int} (h1 : 1 ≤ i) (h2 : i ≤ 6) : repB (.int i) = true := by
  have : i = 1 ∨ i = 2 ∨ i = 3 ∨ i = 4 ∨ i = 5 ∨ i = 6 := by omega
  rcases this with rfl | rfl | rfl | rfl | rfl | rfl <;> decide +kernel
theorem log_small {i : Int} (h1 : 1 ≤ i) (h2 : i ≤ 6) : i.natAbs.log2 < 1920 := by
  have : i = 1 ∨ i = 2 ∨ i = 3 ∨ i = 4 ∨ i = 5 ∨ i = 6 := by omega
  rcases this with rfl | rfl | rfl | rfl | rfl | rfl <;> decide +kernel
section
variable {K : PySem.W.Frag} {σ : L2.St} {H H0 : Hp} {D : Ends} {R : TS} {p a : Addr} {cs : List Int} {b g : Int} {te tl : TE} {s : Nat} {hs : List Hdt} {i j : Nat}
theorem sq_due (e : ER te σ H (AtHs hs)) (k : ∀ l H', Same H H' → AtHs hs (.ref l) H' → R D (σ.set s (some (.ref l))) H') : tSeq (tAsg te (gName s)) R D σ H :=
  e H (fun _ _ e => e) _ fun v H' s' h => by
    obtain ⟨l, vs, rfl, hl, hv⟩ := h
    exact k l H' s' ⟨l, vs, rfl, hl, hv⟩
theorem sq_low {m : Int} (N : Pen H p a cs b g) (h0 : σ[0]? = some (some (.ref p))) (hb : b ≤ 990) (m0 : 0 < m) (m1 : m < 1000)
    (k : ∀ r b' g' H', 0 ≤ r → r < m → b' ≤ b + 1 → Pen H' p a cs b' g' → Same2 H H' p → R D (σ.set s (some (.int (1 + r)))) H') :
    tSeq (tAsg (tOp rPl (tC (.int 1)) (tCall spDraw [] E0 (tCons (tVar 0) (tCons (tC (.int m)) tNil)))) (gName s)) R D σ H := by
  refine ⟨_, h0, ?_⟩
  unfold tCons tC tNil
  show spDraw [.ref p, .int m] H _ _
  exact ⟨p, a, cs, b, g, m, rfl, N, by omega, m0, m1, fun r b' g' H' r0 r1 hb' N' kp => ⟨1, r, rfl, rfl, k r b' g' H' r0 r1 hb' N' kp⟩⟩
theorem sq_high {lo : Int} (N : Pen H p a cs b g) (h0 : σ[0]? = some (some (.ref p))) (hb : b ≤ 990) (h5 : σ[5]? = some (some (.int lo))) (l1 : 1 ≤ lo) (l2 : lo ≤ 5)
    (k : ∀ r b' g' H', 0 ≤ r → r < 6 - lo → b' ≤ b + 1 → Pen H' p a cs b' g' → Same2 H H' p → R D (σ.set s (some (.int (lo + 1 + r)))) H') :
    tSeq (tAsg (tOp rPl (tOp rPl (tVar 5) (tC (.int 1))) (tCall spDraw [] E0 (tCons (tVar 0) (tCons (tOp rMi (tC (.int 6)) (tVar 5)) tNil)))) (gName s)) R D σ H := by
  refine ⟨_, h5, lo, 1, rfl, rfl, _, h0, _, h5, 6, lo, rfl, rfl, ?_⟩
  unfold tNil
  show spDraw [.ref p, .int (6 - lo)] H _ _
  exact ⟨p, a, cs, b, g, 6 - lo, rfl, N, by omega, by omega, by omega, fun r b' g' H' r0 r1 hb' N' kp => ⟨lo + 1, r, rfl, rfl, k r b' g' H' r0 r1 hb' N' kp⟩⟩
def AtIs (ns : List Int) : V → Hp → Prop := fun v H => ∃ l, v = .ref l ∧ H l = some (.lst (ns.map V.int))
def ERI (t : TA) (σ : L2.St) (ns : List Int) : Prop := ∀ (H : Hp) (F : List V → Hp → Prop), F (ns.map V.int) H → t σ H F
theorem eri_nil : ERI tNil σ [] := fun _ _ k => k
theorem eri_var {n : Int} {ns : List Int} {t : TA} (hi : σ[i]? = some (some (.int n))) (a : ERI t σ ns) : ERI (tCons (tVar i) t) σ (n :: ns) := fun H F k => ⟨_, hi, a H (fun xs H1 => F (V.int n :: xs) H1) k⟩
theorem er_ints {t : TA} {ns : List Int} (a : ERI t σ ns) (hz : ns.length ≤ 1000) : ER (tLst t) σ H (AtIs ns) := fun H1 s1 F k => by
  refine a H1 _ ⟨by rw [List.length_map, sizeLine_eq]; omega, fun p np => k _ _ (same_new np) ⟨p, rfl, upd_same⟩⟩
/-- [(tag, str(x)) for x in numbers] -/
theorem er_comp {tag : Str} {ns : List Int} (e : ER tl σ H (AtIs ns)) (hz : ns.length ≤ 1000) (hb : ∀ n ∈ ns, n.natAbs.log2 < 1920) (hw : ∀ v, wipe ((wipe σ [j]).set j v) [j] = wipe σ [j]) (hj : ∀ v, ((wipe σ [j]).set j (some v))[j]? = some (some v)) :
    ER (tLc (iList K tl) (gName j) tYes (tT2 (tC (.str tag)) (tCB rStrI (tCons (tVar j) tNil))) [j]) σ H (AtHs (ns.map fun n => some (tag, toString n))) := fun H1 s1 F k => by
  refine e H1 s1 _ fun v H2 s2 ⟨l, ev, hl⟩ => ?_
  subst ev
  refine ⟨l, rfl, ⟨_, SqL.of hl⟩, fun D0 nD => ?_⟩
  refine lc_it (σ := σ) (vs := [j]) (walk_list (K := K) (a := l) (xs := ns.map V.int))
    (fun n H' => Same H2 H' ∧ ∃ vs, H' D0 = some (.lst vs) ∧ HdAll H' vs ((ns.take n).map fun n => some (tag, toString n))) ⟨same_new nD, [], upd_same, trivial⟩ (fun n H' _ q => SqL.of (q.1 _ _ hl)) ?_ ?_
  · rintro n x H4 H5 hn ⟨s4, vs, hD, hv⟩ ⟨rfl, hx⟩
    rw [List.length_map] at hn
    have hx : (ns.map V.int)[n]? = some x := hx
    rw [List.getElem?_map, List.getElem?_eq_getElem hn] at hx
    obtain rfl : V.int ns[n] = x := Option.some.inj hx
    have more : ns.take (n + 1) = ns.take n ++ [ns[n]] := List.take_succ_eq_append_getElem hn
    refine ⟨hw _, yesB ?_⟩
    refine ⟨_, hj _, ns[n], rfl, hb _ (List.getElem_mem hn), by show 2 ≤ sizeLine; decide, fun q nq => ?_⟩
    have s5 := same_new (o := .tup [V.str tag, V.str (toString ns[n])]) nq
    have hD5 := s5 _ _ hD
    have el := hv.len
    rw [List.length_map, List.length_take] at el
    refine ⟨_, hD5, by rw [sizeLine_eq]; omega, fun c o e => ?_, vs ++ [.ref q], upd_same, ?_⟩
    · rw [upd_ne (ne_of_none e nD)]
      exact s5 _ _ (s4 _ _ e)
    · rw [more, List.map_append]
      exact HdAll.app (HdAll.upd hD5 (hv.ext (Same.extN s5))) ⟨HdAt.upd (h := some (tag, toString ns[n])) ⟨q, rfl, upd_same⟩ hD5, trivial⟩
  · rintro H4 ⟨s4, vs, hD, hv⟩
    rw [List.length_map, List.take_length] at hv
    exact k _ _ (s2.trans s4) ⟨D0, vs, rfl, hD, hv⟩
end
end K9
set_option Elab.async false
set_option linter.all false
set_option maxRecDepth 100000
set_option maxHeartbeats 4000000
/-! _law_many_right: what it tells. -/
namespace K9
open PySem PySem.Spec PyProof.Rows L2 RV EV He EF EI Hd LamX NdefX
def spMany (K : PySem.W.Frag) : Sp := fun vs H Q _ => ∃ p a cs b g, vs = [.ref p] ∧ Pen H p a cs b g ∧ b ≤ 900 ∧ Tabs (TL K) H ∧ ∀ b' g' H', b' ≤ b + 4 → Pen H' p a cs b' g' → Tabs (TL K) H' → Q (.bl true) H'
section
variable {c f : Str} {m : Int} {v u x : V}
theorem inT {i lo hi : Int} (h1 : lo ≤ i) (h2 : i ≤ hi) : inB (.int i) lo hi = true := by show (decide (lo ≤ i) && decide (i ≤ hi)) = true; rw [decide_eq_true h1, decide_eq_true h2]; rfl
theorem inF {i lo hi : Int} (h : i < lo) : inB (.int i) lo hi = false := by show (decide (lo ≤ i) && decide (i ≤ hi)) = false; rw [decide_eq_false (by omega)]; rfl
theorem rise0 : ckRise c f m (v :: []) = if inB v 1 m then none else some (c, f, v) := by
  unfold ckRise
  rw [if_neg (by simp), risen_cons]
  rfl
theorem rise1 {r : List V} (h : inB v 1 m = false) : ckRise c f m (v :: r) = some (c, f, v) := by
  unfold ckRise
  rw [if_neg (by simp), risen_cons, show inB v (0 + 1) m = false from h]
  rfl
theorem rise2 {r : List V} (hv : inB v 1 m = true) (h : inB u (intV v + 1) m = false) : ckRise c f m (v :: u :: r) = some (c, f, u) := by
  unfold ckRise
  rw [if_neg (by simp), risen_cons, show inB v (0 + 1) m = true from hv, if_pos rfl, risen_cons, h]
  rfl
theorem riseK (hv : inB v 1 m = true) (h : inB u (intV v + 1) m = true) : ckRise c f m [v, u] = none := by
  unfold ckRise
  rw [if_neg (by simp), risen_cons, show inB v (0 + 1) m = true from hv, if_pos rfl, risen_cons, h]
  rfl
theorem riseK1 (hv : inB v 1 m = true) : ckRise c f m [v] = none := by rw [rise0, hv]; rfl
theorem stopN {ns : List Int} (h : u ≠ .non → stopB u ns = false) : ckStop c f ns u = if u = .non then none else some (c, f, u) := by
  unfold ckStop
  by_cases e : u = .non
  · rw [e]; rfl
  · rw [h e, if_neg e]; rfl
end
section
variable {P : Program} {w : World} {mg : Str → Option Value} {base : Heap} {K : PySem.W.Frag} {H : Hp} {Q : VK} {E : XK}
theorem read_many (T : KF P w K mg base) {vs : List V} (h : spMany K vs H Q E) : tMany K { nx := fun _ H' => Q .non H', rt := Q } (L2.start scMany_N vs) H := by
  obtain ⟨p, a, cs, b, g, rfl, N, hb, hT, k⟩ := h
  have e : L2.start scMany_N [.ref p] = [some (.ref p), none, none, none, none, none, none, none] := rfl
  rw [e]
  unfold tMany
  refine sq_pick N rfl (by omega) (by decide) (by decide) (erl_lst (Pr := POdd) (erl_cons (od_non ⟨by decide +kernel, by decide +kernel, fun h => absurd rfl h⟩)
      (erl_cons (od_int ⟨by decide +kernel, by decide +kernel, fun _ => by decide +kernel⟩)
      (erl_cons (od_int ⟨by decide +kernel, by decide +kernel, fun _ => by decide +kernel⟩)
      (erl_cons (od_neg ⟨by decide +kernel, by decide +kernel, fun _ => by decide +kernel⟩)
      (erl_cons (od_bl ⟨by decide +kernel, by decide +kernel, fun _ => by decide +kernel⟩)
      (erl_cons (od_str (by decide +kernel) ⟨by decide +kernel, by decide +kernel, fun _ => by decide +kernel⟩)
      (erl_cons (od_tup (.int .nil) fun p => ⟨by decide +kernel, rfl, fun _ => rfl⟩)
      (erl_cons (od_lst (.int .nil) fun p => ⟨by decide +kernel, rfl, fun _ => rfl⟩)
      (erl_cons (od_pow ⟨by decide, by decide, by decide⟩ ⟨by decide +kernel, by decide +kernel, fun _ => by decide +kernel⟩)
      erl_nil))))))))) (by decide)) fun v1 d1 b1 g1 H1 o1 q1 hb1 N1 k1 => ?_
  have hT := pen_up hT N k1
  obtain ⟨r1, l1, st1⟩ := q1
  have l12 := in_mono (lo' := 2) l1 (by decide)
  clear k1 N
  refine sq_first hT (hears_sk (as := [.int 1, v1, .int 2]) (ar_c (ar_var rfl (ar_c ar_nil))) (by simp) (ao_cons (.int 1) (ao_cons o1 (ao_cons (.int 2) ao_nil))) (o := (some (("NoLine", "line", v1) : Err))) (by unfold ocLines; rw [rise2 (inT (by decide) (by decide)) l12]; rfl)) (told_line o1 r1) fun A1 B1 L1 x1 R1 => ?_
  have o1 := o1.ext x1
  have N1 := N1.ext x1
  refine sq_next R1 rfl (by simp) (hears_sk (as := [v1, v1]) (ar_var rfl (ar_var rfl ar_nil)) (by simp) (ao_cons o1 (ao_cons o1 ao_nil)) (o := (some (("NoLine", "line", v1) : Err))) (by unfold ocLines; rw [rise1 l1]; rfl)) (told_line o1 r1) fun C1_1 R1 => ?_
  refine sq_next R1 rfl (by simp) (hears_skK (as := [.int 2, .int 4]) (ar_c (ar_c ar_nil)) (ar_var rfl ar_nil) (by simp) (ao_cons (.int 2) (ao_cons (.int 4) ao_nil)) o1 (o := if v1 = .non then none else (some (("NoLine", "line", v1) : Err))) (by unfold ocLines; rw [riseK (inT (by decide) (by decide)) (inT (by decide) (by decide))]; exact stopN st1)) (told_if (told_line o1 r1)) fun C1_2 R1 => ?_
  have o1 := o1.ext R1.ex
  have N1 := N1.ext R1.ex
  have kl : okH (some ("line", d1.shown)) = true := ok_tag (by decide +kernel) r1
  have ki : okH (if v1 = .non then none else some ("line", d1.shown)) = true := ok_if kl
  have R1 : Run K A1 _ L1 [some ("line", d1.shown), some ("line", d1.shown), if v1 = .non then none else some ("line", d1.shown)] := R1
  refine sq_due (er_cat (er_mul (n := 2) (er_lst (era_cons (er_tag rfl o1 r1) era_nil) (by simp)) (by simp) (by simp) (by decide)) (er_lst (era_cons (er_ifN rfl er_made (er_tag rfl o1 r1)) era_nil) (by simp)) (by simp)) fun M1 E1 s1 a1 => ?_
  have R1 := R1.same s1
  have N1 := N1.ext (Same.extN s1)
  refine sq_ne (ne_test R1.at rfl (by simp [kl, ki]) (er_var rfl stb_hs a1)) fun D1 t1 => ?_
  have N1 := N1.ext (Same.extN t1)
  have hT := R1.tb.ext t1
  refine sq_pick N1 rfl (by omega) (by decide) (by decide) (erl_lst (Pr := PFar) (erl_cons (od_non ⟨by decide +kernel, by decide +kernel, fun h => absurd rfl h⟩)
      (erl_cons (od_int ⟨by decide +kernel, by decide +kernel, fun _ => by decide +kernel⟩)
      (erl_cons (od_int ⟨by decide +kernel, by decide +kernel, fun _ => by decide +kernel⟩)
      (erl_cons (od_bl ⟨by decide +kernel, by decide +kernel, fun _ => by decide +kernel⟩)
      (erl_cons (od_str (by decide +kernel) ⟨by decide +kernel, by decide +kernel, fun _ => by decide +kernel⟩)
      (erl_cons (od_tup (.int .nil) fun p => ⟨by decide +kernel, rfl, fun _ => rfl⟩)
      (erl_cons (od_pow ⟨by decide, by decide, by decide⟩ ⟨by decide +kernel, by decide +kernel, fun _ => by decide +kernel⟩)
      erl_nil))))))) (by decide)) fun v4 d4 b4 g4 H4 o4 q4 hb4 N4 k4 => ?_
  have hT := pen_up hT N1 k4
  obtain ⟨r4, y4, st4⟩ := q4
  refine sq_first hT (hears_sk (as := [.int 3, v4]) (ar_c (ar_var rfl ar_nil)) (by simp) (ao_cons (.int 3) (ao_cons o4 ao_nil)) (o := (some (("NoDay", "day", v4) : Err))) (by unfold ocDays; rw [rise2 (inT (by decide) (by decide)) y4]; rfl)) (told_day o4 r4) fun A2 B2 L2 x2 R2 => ?_
  have o4 := o4.ext x2
  have N4 := N4.ext x2
  refine sq_next R2 rfl (by simp) (hears_skK (as := [.int 3, .int 9]) (ar_c (ar_c ar_nil)) (ar_var rfl ar_nil) (by simp) (ao_cons (.int 3) (ao_cons (.int 9) ao_nil)) o4 (o := if v4 = .non then none else (some (("NoDay", "day", v4) : Err))) (by unfold ocDays; rw [riseK (inT (by decide) (by decide)) (inT (by decide) (by decide))]; exact stopN st4)) (told_if (told_day o4 r4)) fun C2_1 R2 => ?_
  have o4 := o4.ext R2.ex
  have N4 := N4.ext R2.ex
  have ky : okH (some ("day", d4.shown)) = true := ok_tag (by decide +kernel) r4
  have kj : okH (if v4 = .non then none else some ("day", d4.shown)) = true := ok_if ky
  have R2 : Run K A2 _ L2 [some ("day", d4.shown), if v4 = .non then none else some ("day", d4.shown)] := R2
  refine sq_ne (ne_test R2.at rfl (by simp [ky, kj]) (er_lst (era_cons (er_tag rfl o4 r4) (era_cons (er_ifN rfl er_made (er_tag rfl o4 r4)) era_nil)) (by simp))) fun D2 t2 => ?_
  have N4 := N4.ext (Same.extN t2)
  have hT := R2.tb.ext t2
  refine sq_low N4 rfl (by omega) (by decide) (by decide) fun r5 b5 g5 H5 p5 u5 hb5 N5 k5 => ?_
  have hT := pen_up hT N4 k5
  generalize elo : 1 + r5 = lo
  have lo1 : 1 ≤ lo := by omega
  have lo5 : lo ≤ 5 := by omega
  refine sq_high N5 rfl (by omega) rfl lo1 lo5 fun r6 b6 g6 H6 p6 u6 hb6 N6 k6 => ?_
  have hT := pen_up hT N5 k6
  generalize ehi : lo + 1 + r6 = hi
  have hi1 : lo < hi := by omega
  have hi6 : hi ≤ 6 := by omega
  have hi0 : 1 ≤ hi := by omega
  have lo6 : lo ≤ 6 := by omega
  have rl := rep_small lo1 lo6
  have rh := rep_small hi0 hi6
  have iL : inB (.int lo) 1 6 = true := inT lo1 lo6
  have iH : inB (.int hi) 1 6 = true := inT hi0 hi6
  refine sq_first hT (hears_sk (as := [.int hi, .int lo]) (ar_var rfl (ar_var rfl ar_nil)) (by simp) (ao_cons (.int hi) (ao_cons (.int lo) ao_nil)) (o := (some (("NoLine", "line", .int lo) : Err))) (by unfold ocLines; rw [rise2 iH (inF (by show lo < hi + 1; omega))]; rfl)) (told_line (.int lo) rl) fun A3 B3 L3 x3 R3 => ?_
  have N6 := N6.ext x3
  refine sq_next R3 rfl (by simp) (hears_sk (as := [.int lo, .int lo]) (ar_var rfl (ar_var rfl ar_nil)) (by simp) (ao_cons (.int lo) (ao_cons (.int lo) ao_nil)) (o := (some (("NoLine", "line", .int lo) : Err))) (by unfold ocLines; rw [rise2 iL (inF (by show lo < lo + 1; omega))]; rfl)) (told_line (.int lo) rl) fun C3_1 R3 => ?_
  refine sq_next R3 rfl (by simp) (hears_skK (as := [.int lo, .int hi]) (ar_var rfl (ar_var rfl ar_nil)) (ar_var rfl ar_nil) (by simp) (ao_cons (.int lo) (ao_cons (.int hi) ao_nil)) (.int hi) (o := (some (("NoLine", "line", .int hi) : Err))) (by unfold ocLines; rw [riseK iL (inT (by show lo + 1 ≤ hi; omega) hi6)]; show ckStop "NoLine" "line" [lo, hi] (.int hi) = _; unfold ckStop; rw [show stopB (.int hi) [lo, hi] = false from decide_eq_false (by show ¬ hi ∈ [lo]; simp; omega)]; rfl)) (told_line (.int hi) rh) fun C3_2 R3 => ?_
  refine sq_next R3 rfl (by simp) (hears_mk (as := [.int hi, .int lo]) (ar_var rfl (ar_var rfl ar_nil)) rfl (ao_cons (.int hi) (ao_cons (.int lo) ao_nil)) (o := (some (("NoLine", "line", .int lo) : Err))) (by show thenE (ckLine 1 (.int hi)) (ckLine (hi + 1) (.int lo)) = _; rw [k_line hi0 hi6]; exact e_line (inF (by omega)))) (told_line (.int lo) rl) fun C3_3 R3 => ?_
  refine sq_next R3 rfl (by simp) (hears_mk (as := [.int hi, .int lo]) (ar_var rfl (ar_var rfl ar_nil)) rfl (ao_cons (.int hi) (ao_cons (.int lo) ao_nil)) (o := (some (("NoLine", "line", .int lo) : Err))) (by show thenE (ckLine 1 (.int hi)) (ckLine (hi + 1) (.int lo)) = _; rw [k_line hi0 hi6]; exact e_line (inF (by omega)))) (told_line (.int lo) rl) fun C3_4 R3 => ?_
  refine sq_next R3 rfl (by simp) (hears_mk (as := [.int lo, .int lo]) (ar_var rfl (ar_var rfl ar_nil)) rfl (ao_cons (.int lo) (ao_cons (.int lo) ao_nil)) (o := (some (("NoLine", "line", .int lo) : Err))) (by show thenE (ckLine 1 (.int lo)) (ckMate lo (.int lo)) = _; rw [k_line lo1 lo6]; show ckMate lo (.int lo) = _; unfold ckMate; rw [iL, if_pos rfl, if_pos (show intV (.int lo) = lo from rfl)])) (told_line (.int lo) rl) fun C3_5 R3 => ?_
  refine sq_next R3 rfl (by simp) (hears_skK (as := [.int lo]) (ar_var rfl ar_nil) (ar_var rfl ar_nil) (by simp) (ao_cons (.int lo) ao_nil) (.int lo) (o := (some (("NoLine", "line", .int lo) : Err))) (by unfold ocLines; rw [riseK1 iL]; show ckStop "NoLine" "line" [lo] (.int lo) = _; unfold ckStop; rw [show stopB (.int lo) [lo] = false by unfold stopB; simp]; rfl)) (told_line (.int lo) rl) fun C3_6 R3 => ?_
  have N6 := N6.ext R3.ex
  have kL : okH (some ("line", (PyData.int lo).shown)) = true := ok_tag (by decide +kernel) rl
  have kH : okH (some ("line", (PyData.int hi).shown)) = true := ok_tag (by decide +kernel) rh
  have R3 : Run K A3 _ L3 ([lo, lo, hi, lo, lo, lo, lo].map fun n : Int => some (("line" : Str), (PyData.int n).shown)) := R3
  refine sq_ne (ne_test R3.at rfl (by simp [kL, kH]) (er_comp (er_ints (eri_var rfl (eri_var rfl (eri_var rfl (eri_var rfl (eri_var rfl (eri_var rfl (eri_var rfl eri_nil))))))) (by simp)) (by simp) (by simp [log_small lo1 lo6, log_small hi0 hi6]) (fun _ => rfl) (fun _ => rfl))) fun D3 t3 => ?_
  have N6 := N6.ext (Same.extN t3)
  have hT := R3.tb.ext t3
  refine sq_first hT (hears_mk (as := [.int hi, .int lo]) (ar_var rfl (ar_var rfl ar_nil)) rfl (ao_cons (.int hi) (ao_cons (.int lo) ao_nil)) (o := none) (by show thenE (ckLine 1 (.int hi)) (ckMate hi (.int lo)) = _; rw [k_line hi0 hi6]; show ckMate hi (.int lo) = _; unfold ckMate; rw [iL, if_pos rfl, if_neg (show ¬ intV (.int lo) = hi by show ¬ lo = hi; omega)])) (show ToldAs _ none none from trivial) fun A4 B4 L4 x4 R4 => ?_
  have N6 := N6.ext x4
  refine sq_next R4 rfl (by simp) (hears_skK (as := [.int lo, .int hi]) (ar_var rfl (ar_var rfl ar_nil)) (ar_var rfl ar_nil) (by simp) (ao_cons (.int lo) (ao_cons (.int hi) ao_nil)) (.int lo) (o := none) (by unfold ocLines; rw [riseK iL (inT (by show lo + 1 ≤ hi; omega) hi6)]; show ckStop "NoLine" "line" [lo, hi] (.int lo) = _; unfold ckStop; rw [show stopB (.int lo) [lo, hi] = true from decide_eq_true (by show lo ∈ [lo]; simp)]; rfl)) (show ToldAs _ none none from trivial) fun C4_1 R4 => ?_
  refine sq_next R4 rfl (by simp) (hears_skK (as := [.int lo, .int 200]) (ar_var rfl (ar_c ar_nil)) (ar_var rfl ar_nil) (by simp) (ao_cons (.int lo) (ao_cons (.int 200) ao_nil)) (.int lo) (o := none) (by unfold ocDays; rw [riseK (inT lo1 (by omega)) (inT (by show lo + 1 ≤ 200; omega) (by decide))]; show ckStop "NoDay" "day" [lo, 200] (.int lo) = _; unfold ckStop; rw [show stopB (.int lo) [lo, 200] = true from decide_eq_true (by show lo ∈ [lo]; simp)]; rfl)) (show ToldAs _ none none from trivial) fun C4_2 R4 => ?_
  refine sq_next R4 rfl (by simp) (hears_mk (as := [.int lo, .str "zz"]) (ar_var rfl (ar_c ar_nil)) rfl (ao_cons (.int lo) (ao_cons (.str (by decide +kernel)) ao_nil)) (o := none) (by show thenE (ckLine 1 (.int lo)) (ckUp (.str "zz")) = _; rw [k_line lo1 lo6]; show ckUp (.str "zz") = _; unfold ckUp; rw [if_neg (by simp)]; exact k_fix (by decide +kernel))) (show ToldAs _ none none from trivial) fun C4_3 R4 => ?_
  have N6 := N6.ext R4.ex
  have R4 : Run K A4 _ L4 (List.replicate 4 [(none : Hdt)]).flatten := R4
  refine rt_eq rfl (eq_er R4.at rfl (by decide) (er_mul (n := 4) (er_lst (era_cons er_made era_nil) (by simp)) (by simp) (by simp) (by decide))) fun D4 t4 => ?_
  exact k _ _ _ (by omega) (N6.ext (Same.extN t4)) (R4.tb.ext t4)
theorem ok_many (T : KF P w K mg base) (TB : TabB base mg (cc K qMany).1 (cc K qMany).2) : ∃ fd, Gd.FnG P w K mg base CX0 10 (ga K "_law_many_right") fd ["_law_pen_here"] (spMany K) ∧ L2.Binds K fd ["_law_pen_here"] [] ∧ PySem.W.keepIn K (.ref (ga K "_law_many_right")) = true ∧ mg "_law_many_right" = some (.ref (ga K "_law_many_right")) := by
  obtain ⟨fd, F, g⟩ := T.tops qMany (by decide)
  have b : L2.Binds K fd ["_law_pen_here"] [] := FunD.bindsN F fun _ _ _ _ _ _ us hl => match us, hl with | [_], _ => rfl
  have kp := F.kp
  obtain ⟨oc, od, dV, kV, doc, pm, an, cdv, ct, osl, rfl, lk, hcd, _, _⟩ := F.ex
  obtain ⟨c, rfl⟩ := He.codeIn_ref hcd
  have ec : (cc K qMany).1 = c := He.codeOf_eq (p := ("_law_many_right", none)) lk rfl
  refine ⟨_, Gd.ofK lk hcd scMany (fun vs H Q E h => ?_) (fun B out t H vs Q E hG hr h => ?_), b, kp, g⟩
  · obtain ⟨p, a, cs, b, g, rfl, _⟩ := h
    rfl
  · obtain ⟨r, hr', rfl⟩ := code_many (E := E) T TB (by rw [ec]) hG hr
    exact ⟨_, hr', read_many T (E := E) h⟩
end
end K9
set_option Elab.async false
set_option linter.all false
set_option maxRecDepth 100000
set_option maxHeartbeats 4000000
/-! law: its code. -/
namespace K9
open PySem PySem.Spec PyProof.Rows L2 RV EV He EF EI Hd LamX NdefX Gd
abbrev sLw : Stmt := top 69
abbrev scLw_N : List Str := ["_law_script", "_law_pen_here", "_law_turn", "_law_heard_here"]
theorem scLw : FnScope scLw_N ["_law_script"] (defScope sLw) := ⟨rfl, rfl, rfl, by decide +kernel, rfl, by decide +kernel, by decide +kernel⟩
def tF_Lw_0 (K : PySem.W.Frag) : XK → TE := fun E => tMake (ga K "Try") (spDTry K) [] E (tCons (tC (.int 7)) (tCons (tC (.int 0)) tNil))
def tF_Lw_1 (K : PySem.W.Frag) : XK → TE := fun E => tMake (ga K "Probe") (spDProbe K) [] E (tCons (tC (.int 0)) (tCons (tC (.int 7)) tNil))
def tF_Lw_2 (K : PySem.W.Frag) : XK → TE := fun E => tMake (ga K "Meet") (spDMeet K) [] E (tCons (tC (.str "1")) (tCons (tC .non) tNil))
def tF_Lw_3 (K : PySem.W.Frag) : XK → TE := fun E => Sk.tSK (ga K "Renew") (spDRenew K) E (tCons (tC (.int 9)) (tCons (tC (.int 3)) tNil))
def tF_Lw_4 (K : PySem.W.Frag) : XK → TE := fun E => Sk.tSKK (ga K "Rise") (spDRise K) E (tCons (tC (.int 2)) (tCons (tC (.int 4)) tNil)) (tCons (tC (.int 3)) tNil)
def tF_Lw_5 (K : PySem.W.Frag) : XK → TE := fun E => Sk.tSKK (ga K "Renew") (spDRenew K) E (tCons (tC (.int 3)) (tCons (tC (.int 9)) tNil)) (tCons (tC (.int 9)) tNil)
def tF_Lw_6 (K : PySem.W.Frag) : XK → TE := fun E => Sk.tSKK (ga K "Rise") (spDRise K) E (tCons (tC (.int 1)) (tCons (tC (.int 2)) tNil)) (tCons (tC (.bl true)) tNil)
def tF_Lw_7 (K : PySem.W.Frag) : XK → TE := fun E => Sk.tSK (ga K "Rise") (spDRise K) E (tCons (tC (.int 3)) (tCons (tC (.int 2)) (tCons (tC (.int 9)) tNil)))
def tF_Lw_8 (K : PySem.W.Frag) : XK → TE := fun E => Sk.tSKK (ga K "Night") (spDNight K) E (tCons (tC (.int 2)) (tCons (tC (.int 1)) tNil)) (tCons (tC (.int 9)) tNil)
def tF_Lw_9 (K : PySem.W.Frag) : XK → TE := fun E => tMake (ga K "Merge") (spDMerge K) [] E (tCons (tC (.int 7)) (tCons (tC (.str "F")) tNil))
def tF_Lw_10 (K : PySem.W.Frag) : XK → TE := fun E => Sk.tSK (ga K "Rise") (spDRise K) E tNil
def tF_Lw_11 (K : PySem.W.Frag) : XK → TE := fun E => Sk.tSKK (ga K "Night") (spDNight K) E tNil (tCons (tC (.int 1)) tNil)
def tF_Lw_12 (K : PySem.W.Frag) : XK → TE := fun E => Sk.tSK (ga K "Renew") (spDRenew K) E tNil
def tF_Lw_13 (K : PySem.W.Frag) : XK → TE := fun E => Sk.tSKK (ga K "Rise") (spDRise K) E (tCons (tC (.int 1)) (tCons (tC (.int 2)) (tCons (tC (.int 3)) (tCons (tC (.int 4)) (tCons (tC (.int 5)) (tCons (tC (.int 6)) tNil)))))) (tCons (tC (.int 5)) tNil)
def tF_Lw_14 (K : PySem.W.Frag) : XK → TE := fun E => Sk.tSK (ga K "Renew") (spDRenew K) E (tCons (tC (.int 1)) (tCons (tC (.int 200)) tNil))
def tF_Lw_15 (K : PySem.W.Frag) : XK → TE := fun E => tMake (ga K "Carry") (spDCarry K) [] E (tCons (tC (.str "abcdefgh")) (tCons (tC (.int 6)) tNil))
def tTurn (K : PySem.W.Frag) : TS := (tIfS (tOr (tNot (tB (tCall (spOne K) [] E0 (tCons (tVar 1) tNil)))) (tNot (tB (tCall (spMany K) [] E0 (tCons (tVar 1) tNil))))) (tRet (tC (.bl false))) tNext)
def tLw (K : PySem.W.Frag) : TS := (tSeq (tAsg (tCall (spPen K) [] E0 (tCons (tVar 0) tNil)) (gName 1))
  (tSeq (tFor (iRng1 (tCons (tC (.int 9)) tNil)) (gName 2) (tTurn K))
  (tSeq (tAsg (tLst (tCons (tHd K (tF_Lw_0 K)) tNil)) (gName 3))
  (tSeq (tDrop (tBM K "list" rAppend (tVar 3) (tCons (tHd K (tF_Lw_1 K)) tNil)))
  (tSeq (tDrop (tBM K "list" rAppend (tVar 3) (tCons (tHd K (tF_Lw_2 K)) tNil)))
  (tSeq (tIfS (tTest (tOp (rNeD K) (tVar 3) (tLst (tCons (tTup (tCons (tC (.str "line")) (tCons (tC (.str "7")) tNil))) (tCons (tTup (tCons (tC (.str "line")) (tCons (tC (.str "0")) tNil))) (tCons (tTup (tCons (tC (.str "line")) (tCons (tC (.str "'1'")) tNil))) tNil)))))) (tRet (tC (.bl false))) tNext)
  (tSeq (tAsg (tLst (tCons (tHd K (tF_Lw_3 K)) tNil)) (gName 3))
  (tSeq (tDrop (tBM K "list" rAppend (tVar 3) (tCons (tHd K (tF_Lw_4 K)) tNil)))
  (tSeq (tDrop (tBM K "list" rAppend (tVar 3) (tCons (tHd K (tF_Lw_5 K)) tNil)))
  (tSeq (tDrop (tBM K "list" rAppend (tVar 3) (tCons (tHd K (tF_Lw_6 K)) tNil)))
  (tSeq (tDrop (tBM K "list" rAppend (tVar 3) (tCons (tHd K (tF_Lw_7 K)) tNil)))
  (tSeq (tDrop (tBM K "list" rAppend (tVar 3) (tCons (tHd K (tF_Lw_8 K)) tNil)))
  (tSeq (tDrop (tBM K "list" rAppend (tVar 3) (tCons (tHd K (tF_Lw_9 K)) tNil)))
  (tSeq (tIfS (tTest (tOp (rNeD K) (tVar 3) (tLst (tCons (tTup (tCons (tC (.str "day")) (tCons (tC (.str "3")) tNil))) (tCons (tTup (tCons (tC (.str "line")) (tCons (tC (.str "3")) tNil))) (tCons (tTup (tCons (tC (.str "day")) (tCons (tC (.str "9")) tNil))) (tCons (tTup (tCons (tC (.str "line")) (tCons (tC (.str "True")) tNil))) (tCons (tTup (tCons (tC (.str "line")) (tCons (tC (.str "2")) tNil))) (tCons (tTup (tCons (tC (.str "line")) (tCons (tC (.str "1")) tNil))) (tCons (tTup (tCons (tC (.str "line")) (tCons (tC (.str "7")) tNil))) tNil)))))))))) (tRet (tC (.bl false))) tNext)
  (tSeq (tAsg (tLst (tCons (tHd K (tF_Lw_10 K)) tNil)) (gName 3))
  (tSeq (tDrop (tBM K "list" rAppend (tVar 3) (tCons (tHd K (tF_Lw_11 K)) tNil)))
  (tSeq (tDrop (tBM K "list" rAppend (tVar 3) (tCons (tHd K (tF_Lw_12 K)) tNil)))
  (tSeq (tDrop (tBM K "list" rAppend (tVar 3) (tCons (tHd K (tF_Lw_13 K)) tNil)))
  (tSeq (tDrop (tBM K "list" rAppend (tVar 3) (tCons (tHd K (tF_Lw_14 K)) tNil)))
  (tSeq (tDrop (tBM K "list" rAppend (tVar 3) (tCons (tHd K (tF_Lw_15 K)) tNil)))
  (tRet (tAndV (tOp (rEqD K) (tVar 3) (tOp rCat (tOp rMulL (tLst (tCons (tTup (tCons (tC (.str "deed")) (tCons (tC (.str "None")) tNil))) tNil)) (tC (.int 3))) (tOp rMulL (tLst (tCons (tC (.str "made")) tNil)) (tC (.int 3))))) (tOp rEq (tCB (Oo.rStrO (gC K) (spCs K) E0) (tCons (Oo.tNew00 (gC K)) tNil)) (tC (.str "cut")))))))))))))))))))))))))
section
variable {P : Program} {w : World} {K : PySem.W.Frag} {mg : Str → Option Value} {base : Heap}
theorem c_pen (T : KF P w K mg base) : Callee P w K mg base CX0 1 "_law_pen" ["_law_script"] (spPen K) := by
  obtain ⟨fd, F, g⟩ := T.tops ("_law_pen", 63) (by decide)
  exact ⟨fd, ok_pen F (blt T), FunD.bindsN F fun _ _ _ _ _ _ us hl => match us, hl with | [_], _ => rfl, F.kp, g⟩
theorem code_lw (T : KF P w K mg base) (TB : TabB base mg (cc K qLw).1 (cc K qLw).2) (TO : TabB base mg (cc K qOne).1 (cc K qOne).2) (TM : TabB base mg (cc K qMany).1 (cc K qMany).2) {f : Addr} {A : Around} {outer : List Env} {s : Shared} {H : Hp} {E : XK} {cdv : Value} (hcd : cdv = .ref (cc K qLw).1) (hG : A.guards = some []) (hr : Room 10 (A.deeper (envOfC "law" (defScope sLw) s.heap.objs.size f cdv))) :
    ∃ t, PSs (cxOf CX0 P w K mg base scLw_N "law" (defScope sLw) f cdv A outer s H E) (defBody sLw) t ∧ t = tLw K := by
  obtain ⟨fP, GP, bP, kP, gP⟩ := c_pen (w := w) T
  obtain ⟨fO, GO, bO, kO, gO⟩ := ok_one (w := w) T TO
  obtain ⟨fY, GY, bY, kY, gY⟩ := ok_many (w := w) T TM
  obtain ⟨fSt, GSt, bSt, mSt⟩ := m_str (w := w) T
  obtain ⟨mC, _⟩ := mk_cut T
  obtain ⟨fTry, GTry, bTry, mTry, gTry⟩ := m_Try (w := w) T
  obtain ⟨fProbe, GProbe, bProbe, mProbe, gProbe⟩ := m_Probe (w := w) T
  obtain ⟨fMeet, GMeet, bMeet, mMeet, gMeet⟩ := m_Meet (w := w) T
  obtain ⟨GRenew, mRenew, gRenew⟩ := m_Renew (w := w) T
  obtain ⟨GRise, mRise, gRise⟩ := m_Rise (w := w) T
  obtain ⟨GNight, mNight, gNight⟩ := m_Night (w := w) T
  obtain ⟨fMerge, GMerge, bMerge, mMerge, gMerge⟩ := m_Merge (w := w) T
  obtain ⟨fCarry, GCarry, bCarry, mCarry, gCarry⟩ := m_Carry (w := w) T
  have hu := hr.units
  have hm : ((cc K qLw).2, qOf qLw) ∈ TL K := tl_mem (by decide)
  have hu2 := tl_one T (q := qLw) (by decide)
  refine ⟨_, PSs.nox
    (pss_cons (ps_set (i := 1) scLw.nd rfl (.inl rfl) (pe_call (E := E0) GP (hr.mono (by decide)) (by rfl) gP kP bP .nil pass0 (pa_cons (pv 0) pa_nil)))
      (pss_cons (ps_for PassesOwn.never rfl (pi_range1 (by rfl) (T.fr "range" (by decide)) (pa_cons pe_int pa_nil)) (pg_name (i := 2) scLw.nd rfl (.inl rfl)) (pss_one (ps_if (PW.pt (pw_or (pt_not (pt_val (pe_callG (E := E0) GO (hr.mono (by decide)) hG (by rfl) gO kO bO pass0 (pa_cons (pv 1) pa_nil)))) (pw_or1 (pt_not (pt_val (pe_callG (E := E0) GY (hr.mono (by decide)) hG (by rfl) gY kY bY pass0 (pa_cons (pv 1) pa_nil))))))) (pss_one (ps_ret pe_bl)) pss_nil)))
      (pss_cons (ps_set (i := 3) scLw.nd rfl (.inl rfl) (pe_lst (pa_cons (pe_heard (k := 7) (t := tF_Lw_0 K) hG (by decide) T TB hcd hm hu2 (by rfl) (hr.mono (by decide)) (lamS_by (by show lamSB (defScope sLw) _ = true; decide +kernel)) rfl (fun _ _ _ _ _ => rfl)
          (fun A2 out2 s2 H2 E2 f2 c2 hr2 => pe_make (E := E2) mTry GTry (hr2.mono (by decide)) (by rfl) gTry bTry .nil (passes_call (takes_of rfl rfl rfl rfl) fun _ _ _ _ h => h) (pa_cons pe_int (pa_cons pe_int pa_nil)))) pa_nil)))
      (pss_cons (ps_expr (pe_bm PySem.F.plainAttrs_list PySem.F.slot_list_append PySem.F.type_list_append mt_append (pv 3) (pa_cons (pe_heard (k := 7) (t := tF_Lw_1 K) hG (by decide) T TB hcd hm hu2 (by rfl) (hr.mono (by decide)) (lamS_by (by show lamSB (defScope sLw) _ = true; decide +kernel)) rfl (fun _ _ _ _ _ => rfl)
          (fun A2 out2 s2 H2 E2 f2 c2 hr2 => pe_make (E := E2) mProbe GProbe (hr2.mono (by decide)) (by rfl) gProbe bProbe .nil (passes_call (takes_of rfl rfl rfl rfl) fun _ _ _ _ h => h) (pa_cons pe_int (pa_cons pe_int pa_nil)))) pa_nil)))
      (pss_cons (ps_expr (pe_bm PySem.F.plainAttrs_list PySem.F.slot_list_append PySem.F.type_list_append mt_append (pv 3) (pa_cons (pe_heard (k := 7) (t := tF_Lw_2 K) hG (by decide) T TB hcd hm hu2 (by rfl) (hr.mono (by decide)) (lamS_by (by show lamSB (defScope sLw) _ = true; decide +kernel)) rfl (fun _ _ _ _ _ => rfl)
          (fun A2 out2 s2 H2 E2 f2 c2 hr2 => pe_make (E := E2) mMeet GMeet (hr2.mono (by decide)) (by rfl) gMeet bMeet .nil (passes_call (takes_of rfl rfl rfl rfl) fun _ _ _ _ h => h) (pa_cons pe_str (pa_cons pe_non pa_nil)))) pa_nil)))
      (pss_cons (ps_if (pt_cmpR (op_neD hu) (pv 3) (pe_lst (pa_cons (pe_tup (pa_cons pe_str (pa_cons pe_str pa_nil))) (pa_cons (pe_tup (pa_cons pe_str (pa_cons pe_str pa_nil))) (pa_cons (pe_tup (pa_cons pe_str (pa_cons pe_str pa_nil))) pa_nil)))) (nomark _)) (pss_one (ps_ret pe_bl)) pss_nil)
      (pss_cons (ps_set (i := 3) scLw.nd rfl (.inl rfl) (pe_lst (pa_cons (pe_heard (k := 7) (t := tF_Lw_3 K) hG (by decide) T TB hcd hm hu2 (by rfl) (hr.mono (by decide)) (lamS_by (by show lamSB (defScope sLw) _ = true; decide +kernel)) rfl (fun _ _ _ _ _ => rfl)
          (fun A2 out2 s2 H2 E2 f2 c2 hr2 => Sk.pe_sk (E := E2) mRenew GRenew (hr2.mono (by decide)) (by rfl) gRenew (passes_call (takes_of rfl rfl rfl rfl) fun _ _ _ _ h => h) (pa_cons pe_int (pa_cons pe_int pa_nil)))) pa_nil)))
      (pss_cons (ps_expr (pe_bm PySem.F.plainAttrs_list PySem.F.slot_list_append PySem.F.type_list_append mt_append (pv 3) (pa_cons (pe_heard (k := 7) (t := tF_Lw_4 K) hG (by decide) T TB hcd hm hu2 (by rfl) (hr.mono (by decide)) (lamS_by (by show lamSB (defScope sLw) _ = true; decide +kernel)) rfl (fun _ _ _ _ _ => rfl)
          (fun A2 out2 s2 H2 E2 f2 c2 hr2 => Sk.pe_skK (E := E2) mRise GRise (hr2.mono (by decide)) (by rfl) gRise (passes_call (takes_of rfl rfl rfl rfl) fun _ _ _ _ h => h) (pa_cons pe_int (pa_cons pe_int pa_nil)) (pk_cons pe_int pk_nil))) pa_nil)))
      (pss_cons (ps_expr (pe_bm PySem.F.plainAttrs_list PySem.F.slot_list_append PySem.F.type_list_append mt_append (pv 3) (pa_cons (pe_heard (k := 7) (t := tF_Lw_5 K) hG (by decide) T TB hcd hm hu2 (by rfl) (hr.mono (by decide)) (lamS_by (by show lamSB (defScope sLw) _ = true; decide +kernel)) rfl (fun _ _ _ _ _ => rfl)
          (fun A2 out2 s2 H2 E2 f2 c2 hr2 => Sk.pe_skK (E := E2) mRenew GRenew (hr2.mono (by decide)) (by rfl) gRenew (passes_call (takes_of rfl rfl rfl rfl) fun _ _ _ _ h => h) (pa_cons pe_int (pa_cons pe_int pa_nil)) (pk_cons pe_int pk_nil))) pa_nil)))
      (pss_cons (ps_expr (pe_bm PySem.F.plainAttrs_list PySem.F.slot_list_append PySem.F.type_list_append mt_append (pv 3) (pa_cons (pe_heard (k := 7) (t := tF_Lw_6 K) hG (by decide) T TB hcd hm hu2 (by rfl) (hr.mono (by decide)) (lamS_by (by show lamSB (defScope sLw) _ = true; decide +kernel)) rfl (fun _ _ _ _ _ => rfl)
          (fun A2 out2 s2 H2 E2 f2 c2 hr2 => Sk.pe_skK (E := E2) mRise GRise (hr2.mono (by decide)) (by rfl) gRise (passes_call (takes_of rfl rfl rfl rfl) fun _ _ _ _ h => h) (pa_cons pe_int (pa_cons pe_int pa_nil)) (pk_cons pe_bl pk_nil))) pa_nil)))
      (pss_cons (ps_expr (pe_bm PySem.F.plainAttrs_list PySem.F.slot_list_append PySem.F.type_list_append mt_append (pv 3) (pa_cons (pe_heard (k := 7) (t := tF_Lw_7 K) hG (by decide) T TB hcd hm hu2 (by rfl) (hr.mono (by decide)) (lamS_by (by show lamSB (defScope sLw) _ = true; decide +kernel)) rfl (fun _ _ _ _ _ => rfl)
          (fun A2 out2 s2 H2 E2 f2 c2 hr2 => Sk.pe_sk (E := E2) mRise GRise (hr2.mono (by decide)) (by rfl) gRise (passes_call (takes_of rfl rfl rfl rfl) fun _ _ _ _ h => h) (pa_cons pe_int (pa_cons pe_int (pa_cons pe_int pa_nil))))) pa_nil)))
      (pss_cons (ps_expr (pe_bm PySem.F.plainAttrs_list PySem.F.slot_list_append PySem.F.type_list_append mt_append (pv 3) (pa_cons (pe_heard (k := 7) (t := tF_Lw_8 K) hG (by decide) T TB hcd hm hu2 (by rfl) (hr.mono (by decide)) (lamS_by (by show lamSB (defScope sLw) _ = true; decide +kernel)) rfl (fun _ _ _ _ _ => rfl)
          (fun A2 out2 s2 H2 E2 f2 c2 hr2 => Sk.pe_skK (E := E2) mNight GNight (hr2.mono (by decide)) (by rfl) gNight (passes_call (takes_of rfl rfl rfl rfl) fun _ _ _ _ h => h) (pa_cons pe_int (pa_cons pe_int pa_nil)) (pk_cons pe_int pk_nil))) pa_nil)))
      (pss_cons (ps_expr (pe_bm PySem.F.plainAttrs_list PySem.F.slot_list_append PySem.F.type_list_append mt_append (pv 3) (pa_cons (pe_heard (k := 7) (t := tF_Lw_9 K) hG (by decide) T TB hcd hm hu2 (by rfl) (hr.mono (by decide)) (lamS_by (by show lamSB (defScope sLw) _ = true; decide +kernel)) rfl (fun _ _ _ _ _ => rfl)
          (fun A2 out2 s2 H2 E2 f2 c2 hr2 => pe_make (E := E2) mMerge GMerge (hr2.mono (by decide)) (by rfl) gMerge bMerge .nil (passes_call (takes_of rfl rfl rfl rfl) fun _ _ _ _ h => h) (pa_cons pe_int (pa_cons pe_str pa_nil)))) pa_nil)))
      (pss_cons (ps_if (pt_cmpR (op_neD hu) (pv 3) (pe_lst (pa_cons (pe_tup (pa_cons pe_str (pa_cons pe_str pa_nil))) (pa_cons (pe_tup (pa_cons pe_str (pa_cons pe_str pa_nil))) (pa_cons (pe_tup (pa_cons pe_str (pa_cons pe_str pa_nil))) (pa_cons (pe_tup (pa_cons pe_str (pa_cons pe_str pa_nil))) (pa_cons (pe_tup (pa_cons pe_str (pa_cons pe_str pa_nil))) (pa_cons (pe_tup (pa_cons pe_str (pa_cons pe_str pa_nil))) (pa_cons (pe_tup (pa_cons pe_str (pa_cons pe_str pa_nil))) pa_nil)))))))) (nomark _)) (pss_one (ps_ret pe_bl)) pss_nil)
      (pss_cons (ps_set (i := 3) scLw.nd rfl (.inl rfl) (pe_lst (pa_cons (pe_heard (k := 7) (t := tF_Lw_10 K) hG (by decide) T TB hcd hm hu2 (by rfl) (hr.mono (by decide)) (lamS_by (by show lamSB (defScope sLw) _ = true; decide +kernel)) rfl (fun _ _ _ _ _ => rfl)
          (fun A2 out2 s2 H2 E2 f2 c2 hr2 => Sk.pe_sk0 (E := E2) mRise GRise (hr2.mono (by decide)) (by rfl) gRise (passes_call (takes_of rfl rfl rfl rfl) fun _ _ _ _ h => h))) pa_nil)))
      (pss_cons (ps_expr (pe_bm PySem.F.plainAttrs_list PySem.F.slot_list_append PySem.F.type_list_append mt_append (pv 3) (pa_cons (pe_heard (k := 7) (t := tF_Lw_11 K) hG (by decide) T TB hcd hm hu2 (by rfl) (hr.mono (by decide)) (lamS_by (by show lamSB (defScope sLw) _ = true; decide +kernel)) rfl (fun _ _ _ _ _ => rfl)
          (fun A2 out2 s2 H2 E2 f2 c2 hr2 => Sk.pe_skK0 (E := E2) mNight GNight (hr2.mono (by decide)) (by rfl) gNight (passes_call (takes_of rfl rfl rfl rfl) fun _ _ _ _ h => h) (pk_cons pe_int pk_nil))) pa_nil)))
      (pss_cons (ps_expr (pe_bm PySem.F.plainAttrs_list PySem.F.slot_list_append PySem.F.type_list_append mt_append (pv 3) (pa_cons (pe_heard (k := 7) (t := tF_Lw_12 K) hG (by decide) T TB hcd hm hu2 (by rfl) (hr.mono (by decide)) (lamS_by (by show lamSB (defScope sLw) _ = true; decide +kernel)) rfl (fun _ _ _ _ _ => rfl)
          (fun A2 out2 s2 H2 E2 f2 c2 hr2 => Sk.pe_sk0 (E := E2) mRenew GRenew (hr2.mono (by decide)) (by rfl) gRenew (passes_call (takes_of rfl rfl rfl rfl) fun _ _ _ _ h => h))) pa_nil)))
      (pss_cons (ps_expr (pe_bm PySem.F.plainAttrs_list PySem.F.slot_list_append PySem.F.type_list_append mt_append (pv 3) (pa_cons (pe_heard (k := 7) (t := tF_Lw_13 K) hG (by decide) T TB hcd hm hu2 (by rfl) (hr.mono (by decide)) (lamS_by (by show lamSB (defScope sLw) _ = true; decide +kernel)) rfl (fun _ _ _ _ _ => rfl)
          (fun A2 out2 s2 H2 E2 f2 c2 hr2 => Sk.pe_skK (E := E2) mRise GRise (hr2.mono (by decide)) (by rfl) gRise (passes_call (takes_of rfl rfl rfl rfl) fun _ _ _ _ h => h) (pa_cons pe_int (pa_cons pe_int (pa_cons pe_int (pa_cons pe_int (pa_cons pe_int (pa_cons pe_int pa_nil)))))) (pk_cons pe_int pk_nil))) pa_nil)))
      (pss_cons (ps_expr (pe_bm PySem.F.plainAttrs_list PySem.F.slot_list_append PySem.F.type_list_append mt_append (pv 3) (pa_cons (pe_heard (k := 7) (t := tF_Lw_14 K) hG (by decide) T TB hcd hm hu2 (by rfl) (hr.mono (by decide)) (lamS_by (by show lamSB (defScope sLw) _ = true; decide +kernel)) rfl (fun _ _ _ _ _ => rfl)
          (fun A2 out2 s2 H2 E2 f2 c2 hr2 => Sk.pe_sk (E := E2) mRenew GRenew (hr2.mono (by decide)) (by rfl) gRenew (passes_call (takes_of rfl rfl rfl rfl) fun _ _ _ _ h => h) (pa_cons pe_int (pa_cons pe_int pa_nil)))) pa_nil)))
      (pss_cons (ps_expr (pe_bm PySem.F.plainAttrs_list PySem.F.slot_list_append PySem.F.type_list_append mt_append (pv 3) (pa_cons (pe_heard (k := 7) (t := tF_Lw_15 K) hG (by decide) T TB hcd hm hu2 (by rfl) (hr.mono (by decide)) (lamS_by (by show lamSB (defScope sLw) _ = true; decide +kernel)) rfl (fun _ _ _ _ _ => rfl)
          (fun A2 out2 s2 H2 E2 f2 c2 hr2 => pe_make (E := E2) mCarry GCarry (hr2.mono (by decide)) (by rfl) gCarry bCarry .nil (passes_call (takes_of rfl rfl rfl rfl) fun _ _ _ _ h => h) (pa_cons pe_str (pa_cons pe_int pa_nil)))) pa_nil)))
      (pss_one (ps_ret (pe_and (pe_cmpR (op_eqD hu) (pv 3) (pe_op op_cat (pe_op op_mulL (pe_lst (pa_cons (pe_tup (pa_cons pe_str (pa_cons pe_str pa_nil))) pa_nil)) pe_int) (pe_op op_mulL (pe_lst (pa_cons pe_str pa_nil)) pe_int)) (nomark _)) (pe_one (pe_cmpR op_eq (pe_callTy (Oo.call_strO (E := E0) mSt GSt (hr.mono (by decide)) bSt pass0) (by rfl) (T.fr "str" (by decide)) boot_T (pa_cons (Oo.pe_new00 mC (by rfl) T.gc) pa_nil)) pe_str (nomark _)))))))))))))))))))))))))), ?_⟩
  rfl
end
end K9
set_option Elab.async false
set_option linter.all false
set_option maxRecDepth 100000
set_option maxHeartbeats 4000000
/-! law: what it tells. -/
namespace K9
open PySem PySem.Spec PyProof.Rows L2 RV EV He EF EI Hd LamX NdefX
def spLw (K : PySem.W.Frag) : Sp := fun vs H Q _ => ∃ (a : Addr) (ns : List Int), vs = [.ref a] ∧ SqL K H a (ns.map V.int) ∧ ns.length ≤ 63 ∧ Tabs (TL K) H ∧ ∀ H', Q (.bl true) H'
section
variable {H : Hp} {v : V} {d : PyData} {x : Str}
theorem tc_line (o : Odd H v d) (r : repB d = true) (e : d.shown = x) : ToldAs H (some ("NoLine", "line", v)) (some ("line", x)) := by rw [← e]; exact told_line o r
theorem tc_day (o : Odd H v d) (r : repB d = true) (e : d.shown = x) : ToldAs H (some ("NoDay", "day", v)) (some ("day", x)) := by rw [← e]; exact told_day o r
theorem tc_deed (o : Odd H v d) (r : repB d = true) (e : d.shown = x) : ToldAs H (some ("BadDeed", "at", v)) (some ("deed", x)) := by rw [← e]; exact told_deed o r
end
section
variable {P : Program} {w : World} {mg : Str → Option Value} {base : Heap} {K : PySem.W.Frag} {H : Hp} {Q : VK} {E : XK} {D : Ends} {σ : L2.St} {p a : Addr} {cs : List Int} {b g : Int}
theorem turn_read (N : Pen H p a cs b g) (h1 : σ[1]? = some (some (.ref p))) (hb : b ≤ 800) (hT : Tabs (TL K) H) (k : ∀ b' g' H', b' ≤ b + 8 → Pen H' p a cs b' g' → Tabs (TL K) H' → D.nx σ H') : tTurn K D σ H := by
  unfold tTurn
  refine ⟨_, h1, ?_⟩
  unfold tNil
  show spOne K [.ref p] H _ _
  refine ⟨p, a, cs, b, g, rfl, N, by omega, hT, fun b1 g1 H1 hb1 N1 T1 => ⟨true, rfl, if_negB rfl ⟨_, h1, ?_⟩⟩⟩
  show spMany K [.ref p] H1 _ _
  exact ⟨p, a, cs, b1, g1, rfl, N1, by omega, T1, fun b2 g2 H2 hb2 N2 T2 => ⟨true, rfl, if_negB rfl (k b2 g2 H2 (by omega) N2 T2)⟩⟩
theorem er_cut (T : KF P w K mg base) : ER (tOp rEq (tCB (Oo.rStrO (gC K) (spCs K) E0) (tCons (Oo.tNew00 (gC K)) tNil)) (tC (.str "cut"))) σ H (IsV (.bl true)) := fun H1 s1 F k => by
  intro y dx ny nd ne
  have s2 : Same H1 (upd (upd H1 dx (.own y)) y (.ins (gC K) dx [])) := same_obj ny nd
  refine ⟨y, dx, [], rfl, upd_same, y, rfl, ⟨dx, upd_same⟩, fun H' s' => ⟨"cut", rfl, rfl, k _ H' (s2.trans s') ?_⟩⟩
  show V.bl _ = V.bl true
  rw [decide_eq_true rfl]
theorem read_lw (T : KF P w K mg base) {vs : List V} (h : spLw K vs H Q E) : tLw K { nx := fun _ H' => Q .non H', rt := Q } (L2.start scLw_N vs) H := by
  obtain ⟨S, ns, rfl, hS, hl, hT, k⟩ := h
  have e : L2.start scLw_N [.ref S] = [some (.ref S), none, none, none] := rfl
  rw [e]
  unfold tLw
  refine ⟨_, rfl, S, ns, rfl, hS, hl, fun p a cs H1 N s1 => ?_⟩
  refine ⟨9, rfl, by decide, by decide, ?_⟩
  refine for_it (walk_range (lo := 0) (n := 9)) (fun i σ' H' => ∃ (v2 : Option V) (b' g' : Int), b' ≤ 8 * (i : Int) ∧ Pen H' p a cs b' g' ∧ Tabs (TL K) H' ∧ σ' = [some (.ref S), some (.ref p), v2, none])
    ⟨none, 0, 0, by omega, N, hT.ext s1, rfl⟩ (fun _ _ _ _ _ => trivial) ?_ ?_
  · rintro i x σ' H2 H3 hi ⟨v2, b2, g2, hb2, N2, T2, rfl⟩ ⟨rfl, rfl⟩
    exact turn_read N2 rfl (by omega) T2 fun b3 g3 H3 hb3 N3 T3 => ⟨_, b3, g3, by omega, N3, T3, rfl⟩
  rintro σ' H2 ⟨v2, b2, g2, hb2, N2, hT, rfl⟩
  refine sq_first hT (hears_mk (as := [.int 7, .int 0]) (ar_c (ar_c ar_nil)) rfl (ao_cons (.int 7) (ao_cons (.int 0) ao_nil)) (o := some (("NoLine", "line", .int 7) : Err)) (by decide +kernel)) (tc_line (x := "7") (.int 7) (by decide +kernel) (by decide +kernel)) fun A1 B1 L1 x1 R1 => ?_
  refine sq_next R1 rfl (by simp) (hears_mk (as := [.int 0, .int 7]) (ar_c (ar_c ar_nil)) rfl (ao_cons (.int 0) (ao_cons (.int 7) ao_nil)) (o := some (("NoLine", "line", .int 0) : Err)) (by decide +kernel)) (tc_line (x := "0") (.int 0) (by decide +kernel) (by decide +kernel)) fun C1_1 R1 => ?_
  refine sq_next R1 rfl (by simp) (hears_mk (as := [.str "1", .non]) (ar_c (ar_c ar_nil)) rfl (ao_cons (.str (by decide +kernel)) (ao_cons .non ao_nil)) (o := some (("NoLine", "line", .str "1") : Err)) (by decide +kernel)) (tc_line (x := "'1'") (.str (by decide +kernel)) (by decide +kernel) (by decide +kernel)) fun C1_2 R1 => ?_
  refine sq_ne (ne_test R1.at rfl (by decide +kernel) (er_lst (era_cons er_tagC (era_cons er_tagC (era_cons er_tagC era_nil))) (by simp))) fun D1 t1 => ?_
  have hT := R1.tb.ext t1
  refine sq_first hT (hears_sk (as := [.int 9, .int 3]) (ar_c (ar_c ar_nil)) (by simp) (ao_cons (.int 9) (ao_cons (.int 3) ao_nil)) (o := some (("NoDay", "day", .int 3) : Err)) (by decide +kernel)) (tc_day (x := "3") (.int 3) (by decide +kernel) (by decide +kernel)) fun A2 B2 L2 x2 R2 => ?_
  refine sq_next R2 rfl (by simp) (hears_skK (as := [.int 2, .int 4]) (ar_c (ar_c ar_nil)) (ar_c ar_nil) (by simp) (ao_cons (.int 2) (ao_cons (.int 4) ao_nil)) (u := .int 3) (.int 3) (o := some (("NoLine", "line", .int 3) : Err)) (by decide +kernel)) (tc_line (x := "3") (.int 3) (by decide +kernel) (by decide +kernel)) fun C2_1 R2 => ?_
  refine sq_next R2 rfl (by simp) (hears_skK (as := [.int 3, .int 9]) (ar_c (ar_c ar_nil)) (ar_c ar_nil) (by simp) (ao_cons (.int 3) (ao_cons (.int 9) ao_nil)) (u := .int 9) (.int 9) (o := some (("NoDay", "day", .int 9) : Err)) (by decide +kernel)) (tc_day (x := "9") (.int 9) (by decide +kernel) (by decide +kernel)) fun C2_2 R2 => ?_
  refine sq_next R2 rfl (by simp) (hears_skK (as := [.int 1, .int 2]) (ar_c (ar_c ar_nil)) (ar_c ar_nil) (by simp) (ao_cons (.int 1) (ao_cons (.int 2) ao_nil)) (u := .bl true) (.bl true) (o := some (("NoLine", "line", .bl true) : Err)) (by decide +kernel)) (tc_line (x := "True") (.bl true) (by decide +kernel) (by decide +kernel)) fun C2_3 R2 => ?_
  refine sq_next R2 rfl (by simp) (hears_sk (as := [.int 3, .int 2, .int 9]) (ar_c (ar_c (ar_c ar_nil))) (by simp) (ao_cons (.int 3) (ao_cons (.int 2) (ao_cons (.int 9) ao_nil))) (o := some (("NoLine", "line", .int 2) : Err)) (by decide +kernel)) (tc_line (x := "2") (.int 2) (by decide +kernel) (by decide +kernel)) fun C2_4 R2 => ?_
  refine sq_next R2 rfl (by simp) (hears_skK (as := [.int 2, .int 1]) (ar_c (ar_c ar_nil)) (ar_c ar_nil) (by simp) (ao_cons (.int 2) (ao_cons (.int 1) ao_nil)) (u := .int 9) (.int 9) (o := some (("NoLine", "line", .int 1) : Err)) (by decide +kernel)) (tc_line (x := "1") (.int 1) (by decide +kernel) (by decide +kernel)) fun C2_5 R2 => ?_
  refine sq_next R2 rfl (by simp) (hears_mk (as := [.int 7, .str "F"]) (ar_c (ar_c ar_nil)) rfl (ao_cons (.int 7) (ao_cons (.str (by decide +kernel)) ao_nil)) (o := some (("NoLine", "line", .int 7) : Err)) (by decide +kernel)) (tc_line (x := "7") (.int 7) (by decide +kernel) (by decide +kernel)) fun C2_6 R2 => ?_
  refine sq_ne (ne_test R2.at rfl (by decide +kernel) (er_lst (era_cons er_tagC (era_cons er_tagC (era_cons er_tagC (era_cons er_tagC (era_cons er_tagC (era_cons er_tagC (era_cons er_tagC era_nil))))))) (by simp))) fun D2 t2 => ?_
  have hT := R2.tb.ext t2
  refine sq_first hT (hears_sk (as := []) ar_nil (by simp) ao_nil (o := some (("BadDeed", "at", .non) : Err)) (by decide +kernel)) (tc_deed (x := "None") .non (by decide +kernel) (by decide +kernel)) fun A3 B3 L3 x3 R3 => ?_
  refine sq_next R3 rfl (by simp) (hears_skK (as := []) ar_nil (ar_c ar_nil) (by simp) ao_nil (u := .int 1) (.int 1) (o := some (("BadDeed", "at", .non) : Err)) (by decide +kernel)) (tc_deed (x := "None") .non (by decide +kernel) (by decide +kernel)) fun C3_1 R3 => ?_
  refine sq_next R3 rfl (by simp) (hears_sk (as := []) ar_nil (by simp) ao_nil (o := some (("BadDeed", "at", .non) : Err)) (by decide +kernel)) (tc_deed (x := "None") .non (by decide +kernel) (by decide +kernel)) fun C3_2 R3 => ?_
  refine sq_next R3 rfl (by simp) (hears_skK (as := [.int 1, .int 2, .int 3, .int 4, .int 5, .int 6]) (ar_c (ar_c (ar_c (ar_c (ar_c (ar_c ar_nil)))))) (ar_c ar_nil) (by simp) (ao_cons (.int 1) (ao_cons (.int 2) (ao_cons (.int 3) (ao_cons (.int 4) (ao_cons (.int 5) (ao_cons (.int 6) ao_nil)))))) (u := .int 5) (.int 5) (o := none) (by decide +kernel)) (show ToldAs _ none none from trivial) fun C3_3 R3 => ?_
  refine sq_next R3 rfl (by simp) (hears_sk (as := [.int 1, .int 200]) (ar_c (ar_c ar_nil)) (by simp) (ao_cons (.int 1) (ao_cons (.int 200) ao_nil)) (o := none) (by decide +kernel)) (show ToldAs _ none none from trivial) fun C3_4 R3 => ?_
  refine sq_next R3 rfl (by simp) (hears_mk (as := [.str "abcdefgh", .int 6]) (ar_c (ar_c ar_nil)) rfl (ao_cons (.str (by decide +kernel)) (ao_cons (.int 6) ao_nil)) (o := none) (by decide +kernel)) (show ToldAs _ none none from trivial) fun C3_5 R3 => ?_
  have R3 : Run K A3 _ L3 ((List.replicate 3 [(some (("deed", "None") : Str × Str) : Hdt)]).flatten ++ (List.replicate 3 [(none : Hdt)]).flatten) := R3
  refine rt_eq rfl ((eq_er R3.at rfl (by decide +kernel) (er_cat (er_mul (n := 3) (er_lst (era_cons er_tagC era_nil) (by simp)) (by simp) (by simp) (by decide)) (er_mul (n := 3) (er_lst (era_cons er_made era_nil) (by simp)) (by simp) (by simp) (by decide)) (by simp))).and (er_cut T)) fun D3 t3 => k _
theorem ok_law (T : KF P w K mg base) (TB : TabB base mg (cc K qLw).1 (cc K qLw).2) (TO : TabB base mg (cc K qOne).1 (cc K qOne).2) (TM : TabB base mg (cc K qMany).1 (cc K qMany).2) {fd : FuncData} (F : FnP K "law" sLw (ga K "law") fd) : Gd.FnG P w K mg base CX0 11 (ga K "law") fd ["_law_script"] (spLw K) := by
  obtain ⟨oc, od, dV, kV, doc, pm, an, cdv, ct, osl, rfl, lk, hcd, _, _⟩ := F.ex
  obtain ⟨c, rfl⟩ := He.codeIn_ref hcd
  have ec : (cc K qLw).1 = c := He.codeOf_eq (p := ("law", none)) lk rfl
  refine Gd.ofK lk hcd scLw (fun vs H Q E h => ?_) (fun B out t H vs Q E hG hr h => ?_)
  · obtain ⟨a, ns, rfl, _⟩ := h
    rfl
  · obtain ⟨r, hr', rfl⟩ := code_lw (E := E) T TB TO TM (by rw [ec]) hG hr
    exact ⟨_, hr', read_lw T (E := E) h⟩
end
end K9
set_option Elab.async false
set_option linter.all false
set_option maxRecDepth 100000
set_option maxHeartbeats 2000000
/-! The head's end for a law's def that asks for repr and holds lambdas: its tables are empty, no repr is under way. -/
namespace Gd
open PySem PySem.Spec PyProof.Rows L2
/-- an empty table of a code object -/
abbrev emptyT : Obj := { cls := .none, data := .fields #[] }
section
variable {P : Program} {w : World} {K : PySem.W.Frag} {mg mb : Str → Option Value} {k : Nat} {f a : Addr} {ps : List Addr} {fd : FuncData} {x : Str} {sp : Sp} {t : Shared} {us : List Value} {ns : List Int}
/-- what is tracked: the tables, and the script if K does not hold it -/
def trk (K : PySem.W.Frag) (ps : List Addr) (a : Addr) (us : List Value) (ns : List Int) : Hp := fun b =>
  if b ∈ ps then some (.tbl #[]) else if b = a then (match K.lookup a with
    | none => some (.frz { cls := .type "list", data := .seq us.toArray } (.lst (ns.map V.int)))
    | some _ => none) else none
theorem trk_tab {b : Addr} (h : b ∈ ps) : trk K ps a us ns b = some (.tbl #[]) := if_pos h
theorem trk_no {b : Addr} (h1 : b ∉ ps) (h2 : b ≠ a) : trk K ps a us ns b = none := (if_neg h1).trans (if_neg h2)
theorem trk_a (h : a ∉ ps) (e : K.lookup a = none) : trk K ps a us ns a = some (.frz { cls := .type "list", data := .seq us.toArray } (.lst (ns.map V.int))) := by
  unfold trk
  rw [if_neg h, if_pos rfl, e]
theorem trk_K {o : Obj} (h : a ∉ ps) (e : K.lookup a = some o) : trk K ps a us ns a = none := by
  unfold trk
  rw [if_neg h, if_pos rfl, e]
theorem law_callTG (KX : K.In t.heap) (gM : t.heap.Ns mainGlobals mg) (gB : t.heap.Ns builtinsNs mb) (gb : ∀ x : Str, x ≠ "__name__" → mb x = bootBuiltins x) (lim : t.heap.NoLimit) (hg : t.gens = #[])
    (hT : ∀ q ∈ ps, t.heap.get? q = some emptyT) (nT : ∀ q ∈ ps, K.lookup q = none) (C : ∀ q ∈ ps, ∃ c, PySem.W.CodeHd t.heap c q)
    (hbm : ∃ (bm : Addr) (ob : Obj), mg "__builtins__" = some (.ref bm) ∧ bm ≠ builtinsNs ∧ t.heap.get? bm = some ob ∧ ob.cls = .type "module" ∧ ob.dict = some builtinsNs ∧ ob.data = .plain)
    (ha : t.heap.get? a = some { cls := .type "list", data := .seq us.toArray }) (hi : IntsAre us ns) (hl : ns.length ≤ sizeLine) (hR : Room k callerA)
    (F : ∀ base : Heap, K.In base → base.Ns mainGlobals mg → (∀ q ∈ ps, base.BuiltinsAt mg q ∧ mainGlobals ≠ q) → FnG P w K mg base CX0 k f fd [x] sp) (hbind : ∀ (s : Shared) (u : Value), BindsTo s fd ⟨[u], []⟩ [(x, u)])
    (hsp : ∀ H : Hp, (∀ q ∈ ps, H q = some (.tbl #[])) → SqL K H a (ns.map V.int) → sp [.ref a] H (fun v _ => v = .bl true) fun _ _ _ => False)
    (hX : ∀ H e s', CX0 [] H t (fun _ _ _ => False) e s' → False) :
    codeAny (model P w) callerA (.call (.ref f) ⟨[.ref a], []⟩) (fun r s' => r = .ok (.ret (.bool true)) ∧ OldK t.heap s'.heap ∧ s'.os = t.os ∧ AllBare s'.gens) t := by
  have nA : a ∉ ps := fun z => by
    have q := hT a z
    rw [ha] at q
    exact nomatch congrArg Obj.data (Option.some.inj q)
  -- an object of another kind is not tracked
  have free : ∀ {b : Addr} {o : Obj}, t.heap.get? b = some o → (∀ vs n, o.data ≠ .seq vs n) → o.data ≠ .fields #[] → trk K ps a us ns b = none := fun {b o} e h1 h2 => by
    refine trk_no (fun z => ?_) fun z => ?_
    · rw [hT b z] at e
      cases e
      exact h2 rfl
    · rw [z, ha] at e
      cases e
      exact h1 _ _ rfl
  have seen : ∀ {b : Addr} {o : Obj}, t.heap.get? b = some o → trk K ps a us ns b = none → (hidT t.heap (trk K ps a us ns)).get? b = some o := fun e n => hidT_get e n
  have names : ∀ {b : Addr} {m : Str → Option Value}, t.heap.Ns b m → (hidT t.heap (trk K ps a us ns)).Ns b m := fun {b m} ⟨o, es, ep, e, d, r⟩ =>
    ⟨o, es, ep, seen e (free e (fun vs n z => nomatch d.symm.trans z) fun z => nomatch d.symm.trans z), d, r⟩
  have KH : K.In (hidT t.heap (trk K ps a us ns)) := fun b o e => seen (KX b o e) (by
    by_cases hb : b = a
    · rw [hb] at e ⊢
      exact trk_K nA e
    · exact trk_no (fun z => by rw [nT b z] at e; cases e) hb)
  have bi : ∀ q ∈ ps, (hidT t.heap (trk K ps a us ns)).BuiltinsAt mg q ∧ mainGlobals ≠ q := fun q hq => by
    obtain ⟨bm, ob, b1, b2, b3, b4, b5, b6⟩ := hbm
    obtain ⟨og, eg, pg, e1, e2, _⟩ := gM
    refine ⟨⟨bm, ob, b1, b2, fun z => ?_, fun z => ?_, seen b3 (free b3 (fun vs n z => nomatch b6.symm.trans z) fun z => nomatch b6.symm.trans z), b4, b5, b6⟩, fun z => ?_⟩
    · rw [z, e1] at b3
      cases b3
      exact nomatch b6.symm.trans e2
    · rw [z, hT q hq] at b3
      cases b3
      cases b6
    · rw [z, hT q hq] at e1
      cases e1
      cases e2
  have sq : SqL K (trk K ps a us ns) a (ns.map V.int) := by
    cases e : K.lookup a with
    | none => exact .inl (.inr ⟨_, trk_a nA e⟩)
    | some o =>
      have z := KX a o e
      rw [ha] at z
      cases z
      exact .inr ⟨_, us.toArray, _, e, rfl, rfl, rfl, by rw [List.size_toArray, hi.length]; exact hl, by simpa using vals_ints hi⟩
  have hok : HOk P w (trk K ps a us ns) t.heap := fun b u e => by
    by_cases h1 : b ∈ ps
    · rw [trk_tab h1] at e
      cases e
      exact hT b h1
    · by_cases h2 : b = a
      · subst h2
        cases eK : K.lookup b with
        | none =>
          rw [trk_a h1 eK] at e
          cases e
          exact ⟨ha, by rw [List.length_map]; exact hl, us, _, vals_ints hi, ha⟩
        | some o =>
          rw [trk_K h1 eK] at e
          cases e
      · rw [trk_no h1 h2] at e
        cases e
  have e0 : Env0 P w K mg (hidT t.heap (trk K ps a us ns)) callerA [] t (trk K ps a us ns) :=
    ⟨rfl, ⟨KH, names gM, ⟨mb, names gB, gb⟩, let ⟨m, i, j⟩ := lim; ⟨m, names i, j⟩⟩, fun b o e => of_hidT e, Nat.le_of_eq (hidT_size _ _), trivial, fun b e => absurd (show b ∈ ([] : List Addr) from e) (by simp), hok, .of_eq hg⟩
  refine codeAny_mono ((F _ KH (names gM) bi).go callerA [] t (trk K ps a us ns) ⟨[.ref a], []⟩ [.ref a] [.ref a] _ _ rfl hR e0 (hbind t (.ref a)) (.cons rfl .nil) (hsp _ (fun q hq => trk_tab hq) sq)) fun r s' h => ?_
  match r, h with
  | .error e, h => exact (hX (trk K ps a us ns) e s' h).elim
  | .ok (.ret u), h =>
    obtain ⟨v, H', os, bare, un, hok', r', q⟩ := h
    cases (show v = V.bl true from q)
    cases (show u = Value.bool true from r')
    -- what is no table stays
    have stay : ∀ b o, b ∉ ps → t.heap.get? b = some o → s'.heap.get? b = some o := fun b o nb e => by
      have same : trk K ps a us ns b = none → s'.heap.get? b = some o := fun z => un.keep b o e z (fun y => absurd (show b ∈ ([] : List Addr) from y) (by simp)) (by simp)
      by_cases hb : b = a
      · subst hb
        cases eK : K.lookup b with
        | some o' => exact same (trk_K nb eK)
        | none =>
          have y := trk_a (us := us) (ns := ns) nb eK
          have i1 := (hok b _ y).1
          have i2 := (hok' b _ (un.frzs b _ _ y)).1
          rw [e] at i1
          rw [i1]
          exact i2
      · exact same (trk_no nb hb)
    have grown : ∀ q ∈ ps, ∃ more : Array Value, s'.heap.get? q = some { cls := .none, data := .fields more } := fun q hq =>
      let ⟨_, z⟩ := un.tbls q #[] (trk_tab hq)
      ⟨_, hok' q _ z⟩
    refine ⟨rfl, ⟨fun b o e => ?_, fun b o e => ?_⟩, os, bare⟩
    · by_cases hb : b ∈ ps
      · obtain ⟨more, hm⟩ := grown b hb
        obtain ⟨c, hc⟩ := C b hb
        rw [hT b hb] at e
        cases e
        exact .inr (.inl ⟨(hc.tab (hT b hb)).isCodeTable, rfl, #[], more, rfl, by rw [Array.empty_append]; exact hm⟩)
      · exact .inl (stay b o hb e)
    · by_cases hb : b ∈ ps
      · obtain ⟨more, hm⟩ := grown b hb
        exact ⟨_, hm⟩
      · exact ⟨o, stay b o hb e⟩
end
theorem walkTG {l : PySem.W.OpenLaw} {n k : Nat} {q : Program} {loose : List Str} {XP : (Str → Option Value) → Heap → Prop} {YP : World → Heap → Prop} {d : DefRec} {x : Str}
    (hn : l.most = some n) (hn2 : n ≤ sizeLine) (hdf : d.params.defaults = []) (hR : Room k callerA)
    (F : ∀ (w : World) (mg : Str → Option Value) (fa : Addr) (h : Heap), YP w h → h.Ns mainGlobals mg → mg d.name = some (.ref fa) →
      ∃ (K : PySem.W.Frag) (ps : List Addr) (fd : FuncData) (sp : Sp), K.In h ∧ (∀ q ∈ ps, h.get? q = some emptyT) ∧ (∀ q ∈ ps, K.lookup q = none) ∧ (∀ q ∈ ps, ∃ c, PySem.W.CodeHd h c q) ∧ (∀ (s : Shared) (u : Value), BindsTo s fd ⟨[u], []⟩ [(x, u)]) ∧
        (∀ (H : Hp) (a : Addr) (ns : List Int), ns.length ≤ n → (∀ q ∈ ps, H q = some (.tbl #[])) → SqL K H a (ns.map V.int) → sp [.ref a] H (fun v _ => v = .bl true) fun _ _ _ => False) ∧
        ∀ base : Heap, K.In base → base.Ns mainGlobals mg → (∀ q ∈ ps, base.BuiltinsAt mg q ∧ mainGlobals ≠ q) → FnG l.prog w K mg base CX0 k fa fd [x] sp)
    (hX : ∀ (H : Hp) (s : Shared) (e : Value) (s' : Shared), CX0 [] H s (fun _ _ _ => False) e s' → False) :
    PySem.W.WalkO q loose XP YP l.row.toRowW d [] (fun f vs => PySem.call f vs) := by
  refine Att.attach_call hn hdf fun w s₀ s₁ mg mb fa o pm cd doc a vs ns G Y ho hd hcd hmg hobj hints hlen hg => ?_
  obtain ⟨K, ps, fd, sp, KX, hT, nT, C, hb, hsp, hF⟩ := F w mg fa _ Y G.T.g hmg
  exact law_callTG KX G.T.g G.T.b G.T.builtins G.T.nolimit hg hT nT C G.T.bmain hobj hints (Nat.le_trans hlen hn2) hR hF hb (fun H hO hS => hsp H a ns hlen hO hS) fun H e s' => hX H s₁ e s'
end Gd
set_option Elab.async false
set_option linter.all false
set_option maxRecDepth 100000
set_option maxHeartbeats 0
namespace K9
open PySem PySem.Spec PyProof.Rows L2 RV EV He EF EI Hd LamX Gd
/-- the tables of the defs that make lambdas -/
def tabsK (K : PySem.W.Frag) : List Addr := lamN.map fun q => (cc K q).2
theorem lam_tab : ∀ q ∈ lamN, ((q.1, none) : Defn) ∈ tabN := by decide
theorem tabs_of {K : PySem.W.Frag} {H : Hp} (h : ∀ q ∈ tabsK K, H q = some (.tbl #[])) : Tabs (TL K) H := by
  intro p hp
  obtain ⟨q, hq, rfl⟩ := List.mem_map.mp hp
  exact TabS.nil (h (cc K q).2 (List.mem_map_of_mem (f := fun q => (cc K q).2) hq))
theorem in_tabs {K : PySem.W.Frag} {q : Addr} (h : q ∈ tabsK K) : ∃ p ∈ tabN, q = (He.cT K p).2 := by
  obtain ⟨r, hr, rfl⟩ := List.mem_map.mp h
  exact ⟨(r.1, none), lam_tab r hr, rfl⟩
theorem tab_in {K : PySem.W.Frag} {q : Str × Nat} (h : q ∈ lamN) : (cc K q).2 ∈ tabsK K := List.mem_map_of_mem (f := fun q => (cc K q).2) h
end K9
open PySem PySem.W PySem.Calls PyProof.Rows
theorem PySem.Challenge.cw_editionlines_k09_deeds_refused_holds : PySem.Challenge.rw_editionlines_k09_deeds_refused.Holds := by
  w_on; o_law
  refine HandSHeadRun.head_any (r := OpenLaw.row PySem.Challenge.rw_editionlines_k09_deeds_refused) (q := view (OpenLaw.row PySem.Challenge.rw_editionlines_k09_deeds_refused).prog [69]) (H := K9.hkS) (ob := K9.obT) (M := 20000) (loose := K9.loose) (d := HandSHeadRun.topDef (OpenLaw.row PySem.Challenge.rw_editionlines_k09_deeds_refused).prog 69) (kwd := []) K9.obT_eq
    (by kernel_rfl) (fun s => by kernel_rfl) K9.runS (by kernel_rfl) (by kernel_rfl) (by kernel_rfl) (by rfl) (by first | assumption | decide +kernel) (by decide +kernel) ⟨rfl, rfl, rfl, rfl, rfl, by decide +kernel⟩ ?hw ?hc
  case hw => w_witness2
  case hc =>
    refine Gd.walkTG (l := PySem.Challenge.rw_editionlines_k09_deeds_refused) (n := 63) (k := 11) (x := "_law_script") rfl (by decide) (by kernel_rfl) ⟨rfl, by decide, by decide⟩ ?F (fun _ _ _ _ z => z)
    intro w mg fa h Y G hmg0
    obtain ⟨K, KX, c⟩ := Y
    have hmg : mg ("law" : PySem.Str) = some (.ref fa) := by
      have e : (HandSHeadRun.topDef (OpenLaw.row PySem.Challenge.rw_editionlines_k09_deeds_refused).prog 69).name = ("law" : PySem.Str) := by kernel_rfl
      rw [← e]
      exact hmg0
    obtain ⟨fd, F, g⟩ := (K9.kf (P := (PySem.Challenge.rw_editionlines_k09_deeds_refused).prog) KX G c h).tops ("law", 69) (by decide)
    cases hmg.symm.trans g
    have b := L2.FunD.bindsA (ps := ["_law_script"]) F fun _ _ _ _ _ _ us hl => match us, hl with | [_], _ => rfl
    refine ⟨K, K9.tabsK K, fd, K9.spLw K, KX, fun q hq => ?_, fun q hq => ?_, fun q hq => ?_, fun s u => b s [u] rfl, fun H a ns hl hH hS => ⟨a, ns, rfl, hS, hl, K9.tabs_of hH, fun _ => rfl⟩, fun base KB GB hb => ?_⟩
    · obtain ⟨p, hp, rfl⟩ := K9.in_tabs hq
      exact c.x.empty p hp
    · obtain ⟨p, hp, rfl⟩ := K9.in_tabs hq
      exact c.x.out p hp
    · obtain ⟨p, hp, rfl⟩ := K9.in_tabs hq
      exact ⟨_, PySem.W.codeHd_of_K KX (c.x.hd p hp)⟩
    · have tb : ∀ q ∈ K9.lamN, LamX.TabB base mg (K9.cc K q).1 (K9.cc K q).2 := fun q hq => ⟨PySem.W.codeHd_of_K KB (c.x.hd (q.1, none) (K9.lam_tab q hq)), (hb _ (K9.tab_in hq)).1, (hb _ (K9.tab_in hq)).2⟩
      exact K9.ok_law (K9.kf KX G c base) (tb K9.qLw (by decide)) (tb K9.qOne (by decide)) (tb K9.qMany (by decide)) F
