import PyProof.Rows.All
import Wide.All
import OpenK.AllK
import Wide.FinOn
import PyProof.ReprRoads
import HandS.ForMost
import HandS.TupMul
import KE.KStateDown
import HandS.Defaults
import HandS.Head0
import HandS.Head1
import HandS.Head2
import HandS.HeadEnd
import HandS.HeadHook1
import HandS.HeadHook2
import PySem.Challenge.RW_editionlines_k02_words_taken_one_by_one
import HandS.IsInst
import HandS.Iter
import PyProof.Rows.FactsN_isinstance
import HandS.Walk
import HandS.Text
import PyProof.Rows.SeqGen
import HandS.StrMore
import PyProof.StrOps2
import HandS.Exc
import HandS.ExcOwn
import HandS.ExcInit
import KE.KExcIs
import HandS.ExcValue
import HandS.ExcField
import HandS.ExcIs
import HandS.MakeKw
import HandS.MakeKwOnly
import HandS.Property
import HandS.Lambda
import HandS.EndTab
import HandS.HeadHook3
import HandS.HeadHook4
import HandS.HeadWalk
import HandS.ForExc
import OpenK.KOps
import KE.KOwnIter
import PyProof.TupleIter
import PyProof.Rows.Range3
import HandS.Small
import HandS.IterNext
import HandS.More
import HandS.Star
import HandS.Flow
import HandS.CallLocal
import HandS.TupLe
import HandS.TryOnly
import HandS.TryMany
import HandS.RaiseOp
import HandS.Dict
import HandS.Replace
import HandS.Ends
import PyProof.StrLawsRepr
import HandS.RaiseMore
import HandS.Sort
import HandS.EndBits
import HandS.NestedK
import HandS.Words
import HandS.WordsExc
/-! text RepV -/
set_option Elab.async false
set_option linter.all false
set_option maxRecDepth 100000
set_option maxHeartbeats 4000000
/-! What is known of a value all the way down, and repr of it. -/
namespace RV
open PySem PySem.Spec PyProof.Rows L2
def keyD : Key → PyData
  | .inl i => .int i
  | .inr x => .str x
mutual
/-- at v stands the datum d, all the way down -/
inductive Dat (H : Hp) : V → PyData → Prop
  | non : Dat H .non .none
  | bl (b : Bool) : Dat H (.bl b) (.bool b)
  | int (i : Int) : Dat H (.int i) (.int i)
  | str (x : Str) : Dat H (.str x) (.str x)
  | tup {a : Addr} {xs : List V} {ds : List PyData} : H a = some (.tup xs) → Dats H xs ds → Dat H (.ref a) (.tuple ds)
  | lst {a : Addr} {xs : List V} {ds : List PyData} : H a = some (.lst xs) → a ≠ sysModules → Dats H xs ds → Dat H (.ref a) (.list ds)
  | dic {a : Addr} {kvs : List (Key × V)} {kds : List (PyData × PyData)} : H a = some (.dK kvs) → kds.map (·.1) = kvs.map (fun q => keyD q.1) →
      Dats H (kvs.map (·.2)) (kds.map (·.2)) → Dat H (.ref a) (.dict kds)
inductive Dats (H : Hp) : List V → List PyData → Prop
  | nil : Dats H [] []
  | cons {x : V} {d : PyData} {xs : List V} {ds : List PyData} : Dat H x d → Dats H xs ds → Dats H (x :: xs) (d :: ds)
end
mutual
theorem Dat.same {H H' : Hp} (k : ∀ b o, H b = some o → H' b = some o) {v : V} {d : PyData} : Dat H v d → Dat H' v d
  | .non => .non
  | .bl b => .bl b
  | .int i => .int i
  | .str x => .str x
  | .tup e r => .tup (k _ _ e) (r.same k)
  | .lst e n r => .lst (k _ _ e) n (r.same k)
  | .dic e q r => .dic (k _ _ e) q (r.same k)
theorem Dats.same {H H' : Hp} (k : ∀ b o, H b = some o → H' b = some o) {xs : List V} {ds : List PyData} : Dats H xs ds → Dats H' xs ds
  | .nil => .nil
  | .cons r t => .cons (r.same k) (t.same k)
end
theorem vals_of_kv {kvs : List (Key × V)} {vs : List (Key × Value)} (r : KV kvs vs) : kvs.map (·.1) = vs.map (·.1) ∧ Vals (kvs.map (·.2)) (vs.map (·.2)) := by
  induction r with
  | nil => exact ⟨rfl, .nil⟩
  | cons h t ih => exact ⟨by rw [List.map_cons, List.map_cons, ih.1, h.1], .cons h.2 ih.2⟩
theorem pairs_of {P : Program} {w : World} {es : List DictEntry} {vs : List (Key × Value)} (r : Pairs (mixKind P w) es vs) (h : Heap) :
    (∃ as, ReadsAll h (es.map (·.key)) (vs.map fun q => keyD q.1) as ∧ as = []) ∧ es.map (·.val) = vs.map (·.2) := by
  induction r with
  | nil => exact ⟨⟨[], .nil, rfl⟩, rfl⟩
  | @cons e kv es kvs hk hv t ih =>
    obtain ⟨⟨as, ra, ha⟩, iv⟩ := ih
    subst ha
    refine ⟨⟨[], ?_, rfl⟩, by rw [List.map_cons, List.map_cons, hv, iv]⟩
    rw [List.map_cons, List.map_cons]
    rcases keyIs_shape (show keyIs kv.1 e.key = true from hk) with ⟨i, u, e1, e2⟩ | ⟨x, u, e1, e2⟩
    · rw [e1, e2]
      exact .cons (as := []) (bs := []) (.int i u) ra
    · rw [e1, e2]
      exact .cons (as := []) (bs := []) (.str x u) ra
mutual
theorem Dat.reads {P : Program} {w : World} {H : Hp} {h : Heap} (ok : HOk P w H h) {v : V} {d : PyData} {u : Value} : Dat H v d → RelV v u → ∃ as, Reads h u d as ∧ sysModules ∉ as
  | .non, r => by
    cases (show u = Value.none from r)
    exact ⟨[], .none, by simp⟩
  | .bl b, r => by
    cases (show u = Value.bool b from r)
    exact ⟨[], .bool b, by simp⟩
  | .int i, r => by
    obtain ⟨t, rfl⟩ := (show ∃ t, u = Value.int i t from r)
    exact ⟨[], .int i t, by simp⟩
  | .str x, r => by
    obtain ⟨t, rfl⟩ := (show ∃ t, u = Value.str x t from r)
    exact ⟨[], .str x t, by simp⟩
  | .tup (a := a) (xs := xs) e q, r => by
    cases (show u = Value.ref a from r)
    obtain ⟨_, its, rv, o, h1, h2, n, h3⟩ := (show ObjOk P w H h a (.tup xs) from ok a _ e)
    obtain ⟨as, ra, na⟩ := q.reads ok rv
    exact ⟨as, .tuple h1 h2 h3 ra, na⟩
  | .lst (a := a) (xs := xs) e n q, r => by
    cases (show u = Value.ref a from r)
    obtain ⟨_, its, m, rv, h1⟩ := (show ObjOk P w H h a (.lst xs) from ok a _ e)
    obtain ⟨as, ra, na⟩ := q.reads ok rv
    exact ⟨a :: as, .list h1 rfl rfl ra, fun z => by
      rcases List.mem_cons.mp z with z | z
      · exact n z.symm
      · exact na z⟩
  | .dic (a := a) (kvs := kvs) (kds := kds) e q t, r => by
    cases (show u = Value.ref a from r)
    obtain ⟨_, hs, vs, rk, o, es, ep, h1, h2, h3, _, h5, _⟩ := (show ObjOk P w H h a (.dK kvs) from ok a _ e)
    obtain ⟨k1, k2⟩ := vals_of_kv rk
    obtain ⟨⟨as, ra, ha⟩, iv⟩ := pairs_of h5 h
    obtain ⟨bs, rb, nb⟩ := t.reads ok k2
    subst ha
    refine ⟨a :: [] ++ bs, .dict h1 h2.1 h3 (as := []) (bs := bs) ?_ ?_, fun z => ?_⟩
    · have e2 : kds.map (·.1) = vs.map fun q => keyD q.1 := by
        rw [q, show (kvs.map fun q => keyD q.1) = (kvs.map (·.1)).map keyD by rw [List.map_map]; rfl, k1, List.map_map]
        rfl
      rw [e2]
      exact ra
    · rw [iv]
      exact rb
    · rcases List.mem_cons.mp z with z | z
      · exact (beq_eq_false_iff_ne.mp hs) z.symm
      · exact nb z
theorem Dats.reads {P : Program} {w : World} {H : Hp} {h : Heap} (ok : HOk P w H h) {xs : List V} {ds : List PyData} {us : List Value} : Dats H xs ds → Vals xs us → ∃ as, ReadsAll h us ds as ∧ sysModules ∉ as
  | .nil, r => by
    cases r
    exact ⟨[], .nil, by simp⟩
  | .cons q t, r => by
    cases r with
    | cons r1 r2 =>
      obtain ⟨as, ra, na⟩ := q.reads ok r1
      obtain ⟨bs, rb, nb⟩ := t.reads ok r2
      exact ⟨as ++ bs, .cons ra rb, fun z => (List.mem_append.mp z).elim na nb⟩
end
/-- repr of a container -/
def rRepr : List V → Hp → VK → Prop := fun xs H Q => ∃ a d, xs = [.ref a] ∧ Dat H (.ref a) d ∧ d.showable = true ∧ d.depth ≤ 20 ∧ d.shown.length ≤ sizeLine ∧ Q (.str d.shown) H
theorem call_repr {X : Cx} (hg : X.A.guards = some []) (hu : X.A.units + 64 < cLine) : CallR X (.builtin "repr") rRepr := by
  intro pins s σ H xs us Q I r h
  obtain ⟨a, d, rfl, D, hs, hd, hz, q⟩ := h
  cases r with
  | cons r1 r2 =>
    cases r2
    obtain ⟨as, ra, na⟩ := D.reads I.hok r1
    cases (show _ = Value.ref a from r1)
    exact repr_of_reads' ra hs (fun _ => na) hg (by omega) (fun _ _ e => e) (fun h' u tk k => ⟨.str d.shown, H, I.kept (t' := tk) k, ⟨_, rfl⟩, q⟩) hz
/-- a list display: the new list is not the table of modules -/
theorem pe_lst1 {X : Cx} {es : List Expr} {t : TA} {pos : Pos} (h : PA X es t) :
    PE X (.List es pos) (fun σ H Q => t σ H fun xs H1 => xs.length ≤ sizeLine ∧ ∀ p, H1 p = none → p ≠ sysModules → Q (.ref p) (upd H1 p (.lst xs))) := by
  refine ⟨fun pins s σ H Q I hq => ?_⟩
  refine wpAny_List_spliced (thn (h.run pos pins s σ H _ I hq) fun us s1 ⟨xs, H1, I1, r, z, q⟩ => ⟨by rw [← r.length]; exact z, ?_⟩)
  refine ⟨.ref s1.heap.objs.size, _, I1.laid (t' := s1.toks) (o := .lst xs) (fun b u e => Heap.get?_push_of_some _ e) (Nat.le_refl _) ⟨z, us, 0, r, Heap.get?_push_size _ rfl⟩, rfl,
    q _ (I1.hok.fresh (Nat.le_refl _)) (Nat.ne_of_gt I1.big)⟩
/-- a list so many times -/
def rMulL : R2 := fun x y H Q => ∃ l k xs, x = .ref l ∧ y = .int k ∧ H l = some (.lst xs) ∧ xs ≠ [] ∧ 0 ≤ k ∧ k ≤ 1000 ∧ xs.length ≤ 1000 ∧
  ∀ p, H p = none → p ≠ sysModules → Q (.ref p) (upd H p (.lst (List.replicate k.toNat xs).flatten))
theorem op_mulL {X : Cx} : OpR X (binaryOp .Mult) rMulL := by
  intro pins s σ H x y v u Q I rx ry h
  obtain ⟨l, k, xs, rfl, rfl, hT, hne, h1, h2, hz, q⟩ := h
  cases rx
  obtain ⟨t, rfl⟩ := ry
  obtain ⟨_, its, n, r, ho⟩ := (show ObjOk X.prog X.w H s.heap l (.lst xs) from I.hok l _ hT)
  have hle : its.length = xs.length := r.length.symm
  have hi : its.toArray.isEmpty = false := by
    cases its with
    | nil => exact absurd (List.eq_nil_of_length_eq_zero hle.symm) hne
    | cons a b => rfl
  have hm : xs.length * k.toNat ≤ 1000 * 1000 := Nat.mul_le_mul hz (by omega)
  have hsz : its.toArray.size = xs.length := by rw [List.size_toArray, hle]
  refine wpAny_binaryOp_repeat_ref (T := "list") (U := "int") (by decide) ⟨_, ho, rfl⟩ (fun s' => typeIs_int s' k t) noFill_list_mul F.fills_int_mul F.slot_int_rmul repeat_list F.slot_int_index.lookup
    (call_meets F.slot_int_rmul (typeIs_int s k t) F.entry_int_rmul (F.args_int_rmul_2 _ _) (int___rmul___int_list k t l its.toArray n)
      ⟨ho, rfl, ⟨_, ho, rfl⟩, call_meets F.slot_list_mul ⟨_, ho, rfl⟩ F.entry_list_mul (F.args_list_mul_2 _ _)
        (AutoListH.list___mul___list_int_3 l its.toArray n k t (by simp [Builtin.List.listFitsIndex]; omega) (by rw [hsz]; omega) (by rw [hsz]; simp [Builtin.List.listTooLong, sizeLine]; omega)) ⟨ho, ?_⟩⟩)
  rw [hi, if_neg Bool.false_ne_true, size_rep]
  refine ⟨.ref s.heap.objs.size, _, I.laid (t' := s.toks) (o := .lst (List.replicate k.toNat xs).flatten) (fun b ob q => Heap.get?_push_of_some _ q) (Nat.le_refl _) ?_, rfl, q _ (I.hok.fresh (Nat.le_refl _)) (Nat.ne_of_gt I.big)⟩
  refine ⟨?_, _, 0, r.rep k.toNat, Heap.get?_push_size _ rfl⟩
  rw [PyProof.Rows.lm_len_rep_flat, sizeLine_eq]
  have := Nat.mul_comm k.toNat xs.length
  omega
end RV

/-! text K2Head -/
set_option Elab.async false
set_option linter.all false
set_option maxRecDepth 100000
set_option maxHeartbeats 0
namespace K2
open PySem PySem.Spec PyProof.Rows L2
abbrev prog : Program := PySem.Challenge.pw_editionlines_k02_words_taken_one_by_one
def top (i : Nat) : Stmt := prog.main.body.getD i (.Pass ⟨0, 0, 0, 0⟩)
end K2

/-! text K2Draw -/
set_option Elab.async false
set_option linter.all false
set_option maxRecDepth 100000
set_option maxHeartbeats 4000000
/-! The draws of the law: the pen, a draw, a pick. -/
namespace K2
open PySem PySem.Spec PyProof.Rows L2
abbrev sPen : Stmt := top 14
abbrev sDraw : Stmt := top 15
abbrev sPick : Stmt := top 16
abbrev FnP (K : PySem.W.Frag) (x : Str) (st : Stmt) (f : Addr) (fd : FuncData) : Prop := FunD K x x (defArgs st) (defBody st) (defScope st) [] [] f fd
/-- a pen at p: its cells at a, how many were taken, what is left of a great one -/
structure Pen (H : Hp) (p a : Addr) (cs : List Int) (b g : Int) : Prop where
  pn : H p = some (.lst [.ref a, .int b, .int g])
  ce : H a = some (.lst (cs.map V.int))
  b0 : 0 ≤ b
  g0 : 0 ≤ g
  ln : cs.length ≤ 63
theorem Pen.ne {H : Hp} {p a : Addr} {cs : List Int} {b g : Int} (P : Pen H p a cs b g) : a ≠ p := fun e => by
  have z := P.ce
  rw [e, P.pn] at z
  cases cs with
  | nil => cases z
  | cons c cs => cases z
def spDraw : Sp := fun vs H Q _ => ∃ (p a : Addr) (cs : List Int) (b g many : Int), vs = [.ref p, .int many] ∧ Pen H p a cs b g ∧ b ≤ 1000 ∧ 0 < many ∧ many < 1000 ∧
  ∀ (r b' g' : Int) (H' : Hp), 0 ≤ r → r < many → b' ≤ b + 1 → Pen H' p a cs b' g' → (∀ c o, c ≠ p → H c = some o → H' c = some o) → Q (.int r) H'
/-- the built-ins that are still themselves -/
structure Blt (mg : Str → Option Value) : Prop where
  int : mg "int" = none
  len : mg "len" = none
  abs : mg "abs" = none
  list : mg "list" = none
section
variable {P : Program} {w : World} {K : PySem.W.Frag} {mg : Str → Option Value} {base : Heap} {f : Addr} {fd : FuncData}
theorem scDraw : FnScope ["_law_pen_here", "_law_many", "_law_digit", "_law_begun", "_law_raw", "_law_great", "_law_stirred"] ["_law_pen_here", "_law_many"] (defScope sDraw) :=
  ⟨rfl, rfl, rfl, by decide +kernel, rfl, by decide +kernel, by decide +kernel⟩
theorem canLay_ints (cs : List Int) : PyData.canLayAll0 (cs.map PyData.int) = true := by
  induction cs with
  | nil => rfl
  | cons c cs ih => simp [PyData.canLayAll0, PyData.canLay0, ih]
theorem depth_ints (cs : List Int) : PyData.depthAll (cs.map PyData.int) = 0 := by
  induction cs with
  | nil => rfl
  | cons c cs ih => simp [PyData.depthAll, PyData.depth, ih]
theorem shaped_ints (cs : List Int) : SeqAt.shaped (.list (cs.map .int)) = true := by
  simp [SeqAt.shaped, PyData.canLay0, PyData.depth, canLay_ints, depth_ints]
theorem dp_ints {K : PySem.W.Frag} {H : Hp} (cs : List Int) : DpAll K H (cs.map V.int) (cs.map PyData.int) := by
  induction cs with
  | nil => exact .nil
  | cons c cs ih => exact .cons (.int c) ih
theorem great0 {R many : Int} (h : decide ((10 : Int) ^ Int.toNat 18 ≤ if R < 0 then -R else R) = true) (hm : 0 < many) :
    0 ≤ (2 * ((if R < 0 then -R else R) - (10 : Int) ^ Int.toNat 18) + if decide (R < 0) = true then 1 else 0) / many := by
  have h2 := of_decide_eq_true h
  refine Int.ediv_nonneg ?_ (by omega)
  split <;> omega
theorem cpow5 (R : Int) {b : Int} (h0 : 0 ≤ b) (h1 : b ≤ 1000) : CPow (R % 2147483543 + 61273 * b + 2051) 5 := by
  have a1 := Int.emod_nonneg R (show (2147483543 : Int) ≠ 0 by decide)
  have a2 := Int.emod_lt_of_pos R (show (0 : Int) < 2147483543 by decide)
  refine ⟨by decide, by decide, ?_⟩
  omega
theorem cmul1 (x y : Int) : CMul (x % 2147483497) y := by
  have a1 := Int.emod_nonneg x (show (2147483497 : Int) ≠ 0 by decide)
  have a2 := Int.emod_lt_of_pos x (show (0 : Int) < 2147483497 by decide)
  exact .inl ⟨by omega, by omega⟩
theorem cpow3 (x : Int) {b : Int} (h0 : 0 ≤ b) (h1 : b ≤ 1000) : CPow (x % 2147483497 * (2 * b + 1149) + 52393 * b * b + 42911) 3 := by
  have a1 := Int.emod_nonneg x (show (2147483497 : Int) ≠ 0 by decide)
  have a2 := Int.emod_lt_of_pos x (show (0 : Int) < 2147483497 by decide)
  have b1 : x % 2147483497 * (2 * b + 1149) ≤ 2147483497 * (2 * b + 1149) := Int.mul_le_mul_of_nonneg_right (by omega) (by omega)
  have b2 : 0 ≤ x % 2147483497 * (2 * b + 1149) := Int.mul_nonneg a1 (by omega)
  have b3 : 52393 * b * b ≤ 52393 * b * 1000 := Int.mul_le_mul_of_nonneg_left h1 (by omega)
  have b4 : 0 ≤ 52393 * b * b := Int.mul_nonneg (by omega) h0
  refine ⟨by decide, by decide, ?_⟩
  omega
theorem ok_draw (F : FnP K "_law_draw" sDraw f fd) (T : Blt mg) : FnOk P w K mg base CX0 1 f fd ["_law_pen_here", "_law_many"] spDraw := by
  refine F.ok scDraw (fun vs H Q E h => ?_) (fun cdv A outer s H vs Q E hr h => ?_)
  · obtain ⟨p, a, cs, b, g, many, rfl, _⟩ := h
    rfl
  · obtain ⟨p, a, cs, b, g, many, rfl, N, hb, hm0, hm1, k⟩ := h
    have hu := hr.units
    refine ⟨_, PSs.nox (pss_cons (ps_if (pt_cmpR op_gt (pe_ix ix_list (pv 0) pe_int (fun _ _ => rfl)) pe_int (nomark _))
        (pss_cons (ps_set (i := 2) scDraw.nd rfl (.inl rfl) (pe_op op_mod (pe_callTy call_int1 (by rfl) T.int boot_int (pa_cons (pe_ix ix_list (pv 0) pe_int (fun _ _ => rfl)) pa_nil)) (pv 1)))
        (pss_cons (ps_asg (pe_op op_fdiv (pe_callTy call_int1 (by rfl) T.int boot_int (pa_cons (pe_ix ix_list (pv 0) pe_int (fun _ _ => rfl)) pa_nil)) (pv 1)) (pg_sub (pv 0) pe_int set_list))
        (pss_one (ps_ret (pv 2))))) pss_nil)
      (pss_cons (ps_set (i := 3) scDraw.nd rfl (.inl rfl) (pe_ix ix_list (pv 0) pe_int (fun _ _ => rfl)))
      (pss_cons (ps_asg (pe_op op_add (pv 3) pe_int) (pg_sub (pv 0) pe_int set_list))
      (pss_cons (ps_set (i := 4) scDraw.nd rfl (.inl rfl) (pe_op op_add (pe_op op_mul pe_int (pv 3)) pe_int))
      (pss_cons (ps_if (pt_cmpR (op_neD hu) (pe_ix ix_list (pv 0) pe_int (fun _ _ => rfl)) (pe_lst pa_nil) (nomark _))
        (pss_one (ps_set (i := 4) scDraw.nd rfl (.inl rfl) (pe_ix ix_list (pe_ix ix_list (pv 0) pe_int (fun _ _ => rfl))
          (pe_op op_mod (pe_callTy call_int1 (by rfl) T.int boot_int (pa_cons (pv 3) pa_nil)) (pe_callB call_len_seq (by rfl) T.len PySem.boot_len (pa_cons (pe_ix ix_list (pv 0) pe_int (fun _ _ => rfl)) pa_nil))) (fun _ _ => rfl)))) pss_nil)
      (pss_cons (ps_if (PW.pt (pw_and (pt_cmpR op_lt (pv 3) (pe_callB call_len_seq (by rfl) T.len PySem.boot_len (pa_cons (pe_ix ix_list (pv 0) pe_int (fun _ _ => rfl)) pa_nil)) (nomark _))
          (pw_and1 (pt_cmpR op_ge (pe_callB call_abs (by rfl) T.abs boot_abs (pa_cons (pv 4) pa_nil)) (pe_op op_pow pe_int pe_int) (nomark _)))))
        (pss_cons (ps_set (i := 5) scDraw.nd rfl (.inl rfl) (pe_op op_add (pe_op op_mul pe_int (pe_op op_sub (pe_callB call_abs (by rfl) T.abs boot_abs (pa_cons (pv 4) pa_nil)) (pe_op op_pow pe_int pe_int)))
            (pe_callTy call_int1 (by rfl) T.int boot_int (pa_cons (pe_cmpR op_lt (pv 4) pe_int (nomark _)) pa_nil))))
        (pss_cons (ps_asg (pe_op op_fdiv (pe_callTy call_int1 (by rfl) T.int boot_int (pa_cons (pv 5) pa_nil)) (pv 1)) (pg_sub (pv 0) pe_int set_list))
        (pss_one (ps_ret (pe_op op_mod (pe_callTy call_int1 (by rfl) T.int boot_int (pa_cons (pv 5) pa_nil)) (pv 1)))))) pss_nil)
      (pss_cons (ps_set (i := 6) scDraw.nd rfl (.inl rfl) (pe_op op_mod (pe_callTy call_int1 (by rfl) T.int boot_int (pa_cons (pe_op op_pow (pe_op op_add (pe_op op_add
          (pe_op op_mod (pe_callTy call_int1 (by rfl) T.int boot_int (pa_cons (pv 4) pa_nil)) pe_int) (pe_op op_mul pe_int (pv 3))) pe_int) pe_int) pa_nil)) pe_int))
      (pss_cons (ps_set (i := 6) scDraw.nd rfl (.inl rfl) (pe_op op_mod (pe_callTy call_int1 (by rfl) T.int boot_int (pa_cons (pe_op op_pow (pe_op op_add (pe_op op_add
          (pe_op op_mul (pv 6) (pe_op op_add (pe_op op_mul pe_int (pv 3)) pe_int)) (pe_op op_mul (pe_op op_mul pe_int (pv 3)) (pv 3))) pe_int) pe_int) pa_nil)) pe_int))
      (pss_one (ps_ret (pe_op op_mod (pe_callTy call_int1 (by rfl) T.int boot_int (pa_cons (pe_op op_fdiv (pv 6) pe_int) pa_nil)) (pv 1)))))))))))), ?_⟩
    refine ⟨_, rfl, p, _, _, _, rfl, rfl, SqL.of N.pn, atI_nat (j := 2) rfl, _, _, rfl, rfl, _, rfl, ?_⟩
    refine ite2 (fun hg => ?_) (fun hg => ?_)
    · refine ⟨_, rfl, p, _, _, _, rfl, rfl, SqL.of N.pn, atI_nat (j := 2) rfl, .inl ⟨_, rfl, _, rfl, _, _, rfl, rfl, hm0, ?_⟩⟩
      refine ⟨_, rfl, p, _, _, _, rfl, rfl, SqL.of N.pn, atI_nat (j := 2) rfl, .inl ⟨_, rfl, _, rfl, _, _, rfl, rfl, ⟨hm0, by omega⟩, _, rfl, p, _, _, _, rfl, rfl, N.pn, rfl, ?_⟩⟩
      refine ⟨_, rfl, k (g % many) b (g / many) _ (Int.emod_nonneg _ (by omega)) (Int.emod_lt_of_pos _ hm0) (by omega)
        ⟨upd_same, by rw [upd_ne N.ne]; exact N.ce, N.b0, Int.ediv_nonneg N.g0 (by omega), N.ln⟩ fun c o hc e => by rw [upd_ne hc]; exact e⟩
    · refine ⟨_, rfl, p, _, _, _, rfl, rfl, SqL.of N.pn, atI_nat (j := 1) rfl, ?_⟩
      refine ⟨_, rfl, _, _, rfl, rfl, _, rfl, p, _, _, _, rfl, rfl, N.pn, rfl, ?_⟩
      have N1 : Pen (upd H p (.lst [.ref a, .int (b + 1), .int g])) p a cs (b + 1) g :=
        ⟨upd_same, by rw [upd_ne N.ne]; exact N.ce, by have := N.b0; omega, N.g0, N.ln⟩
      refine ⟨_, rfl, _, _, rfl, rfl, .inl ⟨by decide, by decide⟩, _, _, rfl, rfl, ?_⟩
      refine ⟨_, rfl, p, _, _, _, rfl, rfl, SqL.of N1.pn, atI_nat (j := 0) rfl, Nat.zero_le _, fun q hq => ?_⟩
      have qp : p ≠ q := ne_of_none N1.pn hq
      have qa : a ≠ q := ne_of_none N1.ce hq
      have N2 : Pen (upd (upd H p (.lst [.ref a, .int (b + 1), .int g])) q (.lst [])) p a cs (b + 1) g :=
        ⟨by rw [upd_ne qp]; exact N1.pn, by rw [upd_ne qa]; exact N1.ce, N1.b0, N1.g0, N1.ln⟩
      have keep2 : ∀ c o, c ≠ p → H c = some o → upd (upd H p (.lst [.ref a, .int (b + 1), .int g])) q (.lst []) c = some o := fun c o hc e => by
        have e1 : upd H p (.lst [.ref a, .int (b + 1), .int g]) c = some o := by rw [upd_ne hc]; exact e
        rw [upd_ne (ne_of_none e1 hq)]
        exact e1
      refine ⟨.list (cs.map .int), .list [], .lst (SqL.of N2.ce) (dp_ints cs), .lst (SqL.of upd_same) .nil, shaped_ints cs, by decide, _, rfl, ?_⟩
      have two : (PyData.list (cs.map .int)).eqv (.list []) = true ∨ ((PyData.list (cs.map .int)).eqv (.list []) = false ∧ ∃ c, atI (cs.map V.int) (b % ((cs.map V.int).length : Int)) = some (.int c) ∧ (0 : Int) < ((cs.map V.int).length : Int)) := by
        cases cs with
        | nil => exact .inl rfl
        | cons c0 cs =>
          refine .inr ⟨rfl, ?_⟩
          have hl : (0 : Int) < (((c0 :: cs).map V.int).length : Int) := by rw [List.length_map, List.length_cons]; omega
          obtain ⟨j, hj⟩ := Int.eq_ofNat_of_zero_le (Int.emod_nonneg b (Int.ne_of_gt hl))
          have hlt := Int.emod_lt_of_pos b hl
          have hj2 : j < (c0 :: cs).length := by rw [hj, List.length_map] at hlt; exact Int.ofNat_lt.mp hlt
          refine ⟨(c0 :: cs)[j], ?_, hl⟩
          rw [hj]
          refine atI_nat ?_
          rw [List.getElem?_map, List.getElem?_eq_getElem hj2]
          rfl
      show if (!(PyData.list (cs.map .int)).eqv (.list [])) = true then _ else _
      rcases two with e | ⟨e, c, hc, hl⟩
      case' inl =>
        rw [e]
        refine iteF ?_
      case' inr =>
        rw [e]
        refine iteT ?_
        refine ⟨_, rfl, p, _, _, _, rfl, rfl, SqL.of N2.pn, atI_nat (j := 0) rfl, _, rfl, .inl ⟨_, rfl, _, rfl, p, _, _, _, rfl, rfl, SqL.of N2.pn, atI_nat (j := 0) rfl, a, _, rfl, .inl (SqL.of N2.ce), _, _, rfl, rfl, hl, a, _, _, _, rfl, rfl, SqL.of N2.ce, hc, ?_⟩⟩
      all_goals
        refine ⟨_, rfl, _, rfl, p, _, _, _, rfl, rfl, SqL.of N2.pn, atI_nat (j := 0) rfl, a, _, rfl, .inl (SqL.of N2.ce), _, _, rfl, rfl, _, rfl, ?_⟩
        refine ite2 (fun h1 => ?_) (fun h1 => ?_)
        · refine ⟨_, rfl, _, rfl, _, _, rfl, rfl, ⟨by decide, by decide, by decide⟩, _, _, rfl, rfl, _, rfl, ?_⟩
          refine ite2 (fun h2 => ?_) (fun h2 => ?_)
          · refine ⟨_, rfl, _, rfl, _, _, rfl, rfl, ⟨by decide, by decide, by decide⟩, _, _, rfl, rfl, _, _, rfl, rfl, .inl ⟨by decide, by decide⟩, _, rfl, _, _, rfl, rfl, .inr ⟨_, rfl, _, _, rfl, rfl, ?_⟩⟩
            refine ⟨_, rfl, .inl ⟨_, rfl, _, rfl, _, _, rfl, rfl, ⟨hm0, by omega⟩, _, rfl, p, _, _, _, rfl, rfl, N2.pn, rfl, ?_⟩⟩
            refine ⟨_, rfl, .inl ⟨_, rfl, _, rfl, _, _, rfl, rfl, hm0, ?_⟩⟩
            refine k _ (b + 1) _ _ (Int.emod_nonneg _ (by omega)) (Int.emod_lt_of_pos _ hm0) (by omega)
              ⟨upd_same, by rw [upd_ne N2.ne]; exact N2.ce, N2.b0, great0 h2 hm0, N2.ln⟩ fun c o hc e => by rw [upd_ne hc]; exact keep2 c o hc e
          · refine ⟨_, rfl, .inl ⟨_, rfl, _, _, rfl, rfl, (by show (0 : Int) < _; decide), _, rfl, _, _, rfl, rfl, .inl ⟨by decide, by decide⟩, _, _, rfl, rfl, _, _, rfl, rfl, _, _, rfl, rfl, cpow5 _ N.b0 hb, .inl ⟨_, rfl, _, _, rfl, rfl, (by show (0 : Int) < _; decide), ?_⟩⟩⟩
            refine ⟨_, rfl, _, rfl, _, _, rfl, rfl, .inl ⟨by decide, by decide⟩, _, _, rfl, rfl, _, _, rfl, rfl, cmul1 _ _, _, rfl, _, _, rfl, rfl, .inl ⟨by decide, by decide⟩, _, rfl, _, _, rfl, rfl, .inr ⟨by have := N.b0; omega, by omega⟩, _, _, rfl, rfl, _, _, rfl, rfl, _, _, rfl, rfl, cpow3 _ N.b0 hb, .inl ⟨_, rfl, _, _, rfl, rfl, (by show (0 : Int) < _; decide), ?_⟩⟩
            refine ⟨_, rfl, _, _, rfl, rfl, ⟨by decide, by decide⟩, .inl ⟨_, rfl, _, rfl, _, _, rfl, rfl, hm0, ?_⟩⟩
            exact k _ (b + 1) g _ (Int.emod_nonneg _ (by omega)) (Int.emod_lt_of_pos _ hm0) (by omega) N2 keep2
        · refine ⟨_, rfl, .inl ⟨_, rfl, _, _, rfl, rfl, (by show (0 : Int) < _; decide), _, rfl, _, _, rfl, rfl, .inl ⟨by decide, by decide⟩, _, _, rfl, rfl, _, _, rfl, rfl, _, _, rfl, rfl, cpow5 _ N.b0 hb, .inl ⟨_, rfl, _, _, rfl, rfl, (by show (0 : Int) < _; decide), ?_⟩⟩⟩
          refine ⟨_, rfl, _, rfl, _, _, rfl, rfl, .inl ⟨by decide, by decide⟩, _, _, rfl, rfl, _, _, rfl, rfl, cmul1 _ _, _, rfl, _, _, rfl, rfl, .inl ⟨by decide, by decide⟩, _, rfl, _, _, rfl, rfl, .inr ⟨by have := N.b0; omega, by omega⟩, _, _, rfl, rfl, _, _, rfl, rfl, _, _, rfl, rfl, cpow3 _ N.b0 hb, .inl ⟨_, rfl, _, _, rfl, rfl, (by show (0 : Int) < _; decide), ?_⟩⟩
          refine ⟨_, rfl, _, _, rfl, rfl, ⟨by decide, by decide⟩, .inl ⟨_, rfl, _, rfl, _, _, rfl, rfl, hm0, ?_⟩⟩
          exact k _ (b + 1) g _ (Int.emod_nonneg _ (by omega)) (Int.emod_lt_of_pos _ hm0) (by omega) N2 keep2
end
open RV
theorem same_new {H : Hp} {p : Addr} {o : HO} (n : H p = none) : Same H (upd H p o) := fun b u e => by
  rw [upd_ne (ne_of_none e n)]
  exact e
theorem Pen.same {H H' : Hp} {p a : Addr} {cs : List Int} {b g : Int} (P : Pen H p a cs b g) (k : Same H H') : Pen H' p a cs b g :=
  ⟨k _ _ P.pn, k _ _ P.ce, P.b0, P.g0, P.ln⟩
/-- a heap without p -/
def mn (H : Hp) (p : Addr) : Hp := fun c => if c = p then none else H c
theorem mn_same {H : Hp} {p : Addr} : mn H p p = none := if_pos rfl
theorem mn_ne {H : Hp} {p c : Addr} (h : c ≠ p) : mn H p c = H c := if_neg h
theorem mn_at {H : Hp} {p c : Addr} {o u : HO} (hp : H p = some u) (hc : H c = some o) (d : o ≠ u) : mn H p c = some o := by
  rw [mn_ne (ne_of hc hp d)]
  exact hc
theorem _root_.RV.Dats.mem {H : Hp} {xs : List V} {ds : List PyData} (r : Dats H xs ds) {x : V} (hx : x ∈ xs) : ∃ d ∈ ds, Dat H x d := by
  induction xs generalizing ds with
  | nil => cases hx
  | cons y ys ih =>
    cases r with
    | @cons _ d _ ds r1 r2 =>
      rcases List.mem_cons.mp hx with e | e
      · exact ⟨d, List.mem_cons_self, by rw [e]; exact r1⟩
      · obtain ⟨d', h1, h2⟩ := ih r2 e
        exact ⟨d', List.mem_cons_of_mem _ h1, h2⟩
def spPen (K : PySem.W.Frag) : Sp := fun vs H Q _ => ∃ (s : Addr) (ns : List Int), vs = [.ref s] ∧ SqL K H s (ns.map V.int) ∧ ns.length ≤ 63 ∧
  ∀ (p a : Addr) (cs : List Int) (H' : Hp), Pen H' p a cs 0 0 → Same H H' → Q (.ref p) H'
def spPick : Sp := fun vs H Q _ => ∃ (p a l : Addr) (cs : List Int) (b g : Int) (xs : List V), vs = [.ref p, .ref l] ∧ Pen H p a cs b g ∧ b ≤ 1000 ∧ l ≠ p ∧ H l = some (.lst xs) ∧
  xs ≠ [] ∧ xs.length < 1000 ∧
  ∀ (x : V) (b' g' : Int) (H' : Hp), x ∈ xs → b' ≤ b + 1 → Pen H' p a cs b' g' → (∀ c o, c ≠ p → H c = some o → H' c = some o) → Q x H'
section
variable {P : Program} {w : World} {K : PySem.W.Frag} {mg : Str → Option Value} {base : Heap} {f fD : Addr} {fd fdD : FuncData}
theorem scPen : FnScope ["_law_script"] ["_law_script"] (defScope sPen) := ⟨rfl, rfl, rfl, by decide +kernel, rfl, by decide +kernel, by decide +kernel⟩
theorem cut_ints (ns : List Int) (lo hi : Option Int) : ∃ cs : List Int, cutV (ns.map V.int) lo hi = cs.map V.int ∧ cs.length ≤ ns.length := by
  refine ⟨(ns.drop (HT.sIx (ns.map V.int).length 0 lo)).take (HT.sIx (ns.map V.int).length (ns.map V.int).length hi - HT.sIx (ns.map V.int).length 0 lo), ?_, ?_⟩
  · rw [List.map_take, List.map_drop]
    rfl
  · rw [List.length_take, List.length_drop]
    omega
theorem ok_pen (F : FnP K "_law_pen" sPen f fd) (T : Blt mg) : FnOk P w K mg base CX0 1 f fd ["_law_script"] (spPen K) := by
  refine F.ok scPen (fun vs H Q E h => ?_) (fun cdv A outer s H vs Q E hr h => ?_)
  · obtain ⟨a, ns, rfl, _⟩ := h
    rfl
  · obtain ⟨a, ns, rfl, hS, hl, k⟩ := h
    refine ⟨_, PSs.nox (pss_one (ps_ret (pe_lst (pa_cons (pe_callTy call_list_of (by rfl) T.list boot_list (pa_cons (pe_slice sl_list (pv 0) po_none (po_some pe_int)) pa_nil)) (pa_cons pe_int (pa_cons pe_int pa_nil)))))), ?_⟩
    obtain ⟨cs, e, hc⟩ := cut_ints ns none (some 63)
    refine ⟨_, rfl, _, rfl, a, _, rfl, hS, fun q hq => ?_⟩
    rw [e]
    refine ⟨q, _, rfl, .inl (SqL.of upd_same), fun r hr' => ⟨(by show 3 ≤ sizeLine; decide), fun p hp => ?_⟩⟩
    have n1 := ne_of_none (upd_same (H := upd H q (.lst (cs.map V.int))) (a := r) (o := .lst (cs.map V.int))) hp
    refine k p r cs _ ⟨upd_same, by rw [upd_ne n1, upd_same], Int.le_refl _, Int.le_refl _, by omega⟩ ((same_new hq).trans ((same_new hr').trans (same_new hp)))
theorem scPick : FnScope ["_law_pen_here", "_law_some"] ["_law_pen_here", "_law_some"] (defScope sPick) := ⟨rfl, rfl, rfl, by decide +kernel, rfl, by decide +kernel, by decide +kernel⟩
theorem ok_pick (F : FnP K "_law_pick" sPick f fd) (T : Blt mg) (FD : FnP K "_law_draw" sDraw fD fdD) (gD : mg "_law_draw" = some (.ref fD)) :
    FnOk P w K mg base CX0 2 f fd ["_law_pen_here", "_law_some"] spPick := by
  have GD : FnOk P w K mg base CX0 1 fD fdD ["_law_pen_here", "_law_many"] spDraw := ok_draw FD T
  have bD : Binds K fdD ["_law_pen_here", "_law_many"] [] := FD.bindsN fun _ _ _ _ _ _ us hl => match us, hl with | [_, _], _ => rfl
  refine F.ok scPick (fun vs H Q E h => ?_) (fun cdv A outer s H vs Q E hr h => ?_)
  · obtain ⟨p, a, l, cs, b, g, xs, rfl, _⟩ := h
    rfl
  · obtain ⟨p, a, l, cs, b, g, xs, rfl, N, hb, nl, hL, hx, hz, k⟩ := h
    refine ⟨_, PSs.nox (pss_one (ps_ret (pe_ix ix_list (pv 1) (pe_call GD hr (by rfl) gD FD.kp bD .nil pass0 (pa_cons (pv 0) (pa_cons (pe_callB call_len_seq (by rfl) T.len PySem.boot_len (pa_cons (pv 1) pa_nil)) pa_nil))) (fun _ _ => rfl)))), ?_⟩
    have h0 : (0 : Int) < (xs.length : Int) := by
      cases xs with
      | nil => exact absurd rfl hx
      | cons x xs => rw [List.length_cons]; omega
    refine ⟨_, rfl, _, rfl, _, rfl, l, _, rfl, .inl (SqL.of hL), p, a, cs, b, g, _, rfl, N, hb, h0, by omega, fun r b' g' H' r0 r1 hb' N' kp => ?_⟩
    obtain ⟨j, rfl⟩ := Int.eq_ofNat_of_zero_le r0
    have hj : j < xs.length := Int.ofNat_lt.mp r1
    exact ⟨l, xs, _, _, rfl, rfl, SqL.of (kp l _ nl hL), atI_nat (List.getElem?_eq_getElem hj), k _ b' g' H' (List.getElem_mem hj) hb' N' kp⟩
end
end K2

/-! text K2Checks -/
set_option Elab.async false
set_option linter.all false
set_option maxRecDepth 100000
set_option maxHeartbeats 1000000
/-! The checks: is_integer, is_within, is_fix. -/
namespace K2
open PySem PySem.Spec PyProof.Rows L2 RV
abbrev sInt : Stmt := top 2
abbrev sWithin : Stmt := top 3
abbrev sFix : Stmt := top 4
structure Blt2 (mg : Str → Option Value) : Prop where
  isi : mg "isinstance" = none
  int : mg "int" = none
  bool : mg "bool" = none
  str : mg "str" = none
  len : mg "len" = none
  all : mg "all" = none
theorem boot_T {x : Str} {t : String} (h : bootBuiltins x = some (.type t) := by decide +kernel) : bootBuiltins x = some (.type t) := h
/-- isinstance(e, T) of a value of a built-in type -/
def rIsB (K : PySem.W.Frag) : List V → Hp → VK → Prop := rIsi K
theorem isb {K : PySem.W.Frag} {H : Hp} {v : V} {a b : String} {r : Bool} {Q : VK} (t : TyX K H v (.type a)) (h : kitB a b = some r) (k : Q (.bl r) H) : rIsi K [v, .ty b] H Q := ⟨v, .ty b, _, _, r, rfl, .ty b, t, kit_ty h, k⟩
theorem if_posB {b : Bool} {A B : Prop} (hb : b = true) (h : A) : if b = true then A else B := by rw [if_pos hb]; exact h
theorem if_negB {b : Bool} {A B : Prop} (hb : b = false) (h : B) : if b = true then A else B := by rw [if_neg (by rw [hb]; exact Bool.false_ne_true)]; exact h
def spIsInt (K : PySem.W.Frag) : Sp := fun vs H Q _ => ∃ v t bi bb, vs = [v] ∧ TyX K H v (.type t) ∧ kitB t "int" = some bi ∧ kitB t "bool" = some bb ∧ Q (.bl (bi && !bb)) H
def spWithin (K : PySem.W.Frag) : Sp := fun vs H Q _ => ∃ v t bi bb lo hi, vs = [v, .int lo, .int hi] ∧ TyX K H v (.type t) ∧ kitB t "int" = some bi ∧ kitB t "bool" = some bb ∧
  (((bi && !bb) = false ∧ Q (.bl false) H) ∨ ((bi && !bb) = true ∧ ∃ i, v = .int i ∧ Q (.bl (decide (lo ≤ i) && decide (i ≤ hi))) H))
section
variable {P : Program} {w : World} {K : PySem.W.Frag} {mg : Str → Option Value} {base : Heap} {f fI : Addr} {fd fdI : FuncData}
theorem scInt : FnScope ["value"] ["value"] (defScope sInt) := ⟨rfl, rfl, rfl, by decide +kernel, rfl, by decide +kernel, by decide +kernel⟩
theorem ok_isInt (F : FnP K "is_integer" sInt f fd) (T : Blt2 mg) : FnOk P w K mg base CX0 1 f fd ["value"] (spIsInt K) := by
  refine F.ok scInt (fun vs H Q E h => ?_) (fun cdv A outer s H vs Q E hr h => ?_)
  · obtain ⟨v, t, bi, bb, rfl, _⟩ := h
    rfl
  · obtain ⟨v, t, bi, bb, rfl, ht, h1, h2, k⟩ := h
    refine ⟨_, PSs.nox (pss_one (ps_ret (pe_and (pe_callB call_isi (by rfl) T.isi PyProof.Rows.boot_isinstance (pa_cons (pv 0) (pa_cons (pe_bltn (v := .ty "int") (by rfl) T.int boot_int rfl) pa_nil)))
      (pe_one (pe_not (pe_callB call_isi (by rfl) T.isi PyProof.Rows.boot_isinstance (pa_cons (pv 0) (pa_cons (pe_bltn (v := .ty "bool") (by rfl) T.bool boot_T rfl) pa_nil)))))))), ?_⟩
    refine ⟨v, rfl, v, .ty "int", _, _, bi, rfl, .ty _, ht, kit_ty h1, bi, rfl, ?_⟩
    cases bi with
    | true => exact if_posB rfl ⟨v, rfl, v, .ty "bool", _, _, bb, rfl, .ty _, ht, kit_ty h2, bb, rfl, by simpa using k⟩
    | false => exact if_negB rfl (by simpa using k)
theorem scWithin : FnScope ["value", "least", "most"] ["value", "least", "most"] (defScope sWithin) := ⟨rfl, rfl, rfl, by decide +kernel, rfl, by decide +kernel, by decide +kernel⟩
theorem ok_within (F : FnP K "is_within" sWithin f fd) (T : Blt2 mg) (FI : FnP K "is_integer" sInt fI fdI) (gI : mg "is_integer" = some (.ref fI)) : FnOk P w K mg base CX0 2 f fd ["value", "least", "most"] (spWithin K) := by
  have GI : FnOk P w K mg base CX0 1 fI fdI ["value"] (spIsInt K) := ok_isInt FI T
  have bI : L2.Binds K fdI ["value"] [] := FI.bindsN fun _ _ _ _ _ _ us hl => match us, hl with | [_], _ => rfl
  refine F.ok scWithin (fun vs H Q E h => ?_) (fun cdv A outer s H vs Q E hr h => ?_)
  · obtain ⟨v, t, bi, bb, lo, hi, rfl, _⟩ := h
    rfl
  · obtain ⟨v, t, bi, bb, lo, hi, rfl, ht, h1, h2, k⟩ := h
    refine ⟨_, PSs.nox (pss_one (ps_ret (pe_and (pe_call GI hr (by rfl) gI FI.kp bI .nil pass0 (pa_cons (pv 0) pa_nil)) (pe_one (pe_chain op_le op_le (pv 1) (pv 0) (pv 2)))))), ?_⟩
    refine ⟨v, rfl, v, t, bi, bb, rfl, ht, h1, h2, (bi && !bb), rfl, ?_⟩
    rcases k with ⟨e, k⟩ | ⟨e, i, rfl, k⟩
    · rw [e]
      exact if_negB rfl k
    · rw [e]
      refine if_posB rfl ⟨_, rfl, _, rfl, lo, i, rfl, rfl, _, rfl, ?_⟩
      by_cases hle : lo ≤ i
      · refine if_posB (decide_eq_true hle) ⟨_, rfl, i, hi, rfl, rfl, ?_⟩
        rw [decide_eq_true hle] at k
        simpa using k
      · refine if_negB (decide_eq_false hle) ?_
        rw [decide_eq_false hle] at k
        simpa using k
end
end K2

/-! text K2Fix -/
set_option Elab.async false
set_option linter.all false
set_option maxRecDepth 100000
set_option maxHeartbeats 1000000
namespace K2
open PySem PySem.Spec PyProof.Rows L2 RV
def letB (c : Nat) : Bool := decide (97 ≤ c) && decide (c ≤ 122)
/-- 1 to 8 letters from a to z -/
def isFixB (x : Str) : Bool := decide (1 ≤ (x.length : Int)) && (decide ((x.length : Int) ≤ 8) && x.cps.toList.all letB)
theorem one_lt {a b : Nat} : ([a] < [b]) ↔ a < b := by
  rw [List.cons_lt_cons_iff]
  constructor
  · rintro (h | ⟨_, h⟩)
    · exact h
    · cases h
  · exact .inl
theorem yesB {σ : L2.St} {H : Hp} {F G : Hp → Prop} (h : F H) : tYes σ H (fun b H3 => if b = true then F H3 else G H3) := by
  show if true = true then F H else G H
  exact if_posB rfl h
theorem let_eq (c : Nat) : (!decide ([c] < [97]) && !decide ([122] < [c])) = letB c := by
  unfold letB
  have e1 : ([c] < [97]) ↔ c < 97 := one_lt
  have e2 : ([122] < [c]) ↔ 122 < c := one_lt
  rw [decide_eq_decide.mpr e1, decide_eq_decide.mpr e2, ← decide_not, ← decide_not, decide_eq_decide.mpr (Nat.not_lt), decide_eq_decide.mpr (Nat.not_lt)]
def spFix (K : PySem.W.Frag) : Sp := fun vs H Q _ => ∃ v, vs = [v] ∧ ((∃ x, v = .str x ∧ x.length ≤ 1000000 ∧ ∀ H', Same H H' → Q (.bl (isFixB x)) H') ∨ (∃ t, TyX K H v (.type t) ∧ kitB t "str" = some false ∧ Q (.bl false) H))
section
variable {P : Program} {w : World} {K : PySem.W.Frag} {mg : Str → Option Value} {base : Heap} {f fI : Addr} {fd fdI : FuncData}
abbrev rLeS : R2 := fun x y H Q => ∃ i j, x = V.str i ∧ y = V.str j ∧ Q (V.bl (!decide (j.cps.toList < i.cps.toList))) H
abbrev scFix_N : List Str := ["value", "letter"]
theorem scFix : FnScope scFix_N ["value"] (defScope sFix) := ⟨rfl, rfl, rfl, by decide +kernel, rfl, by decide +kernel, by decide +kernel⟩
def teLet : TE := tChain rLeS rLeS (tC (.str "a")) (tVar 1) (tC (.str "z"))
theorem lets_read {σ : L2.St} {H : Hp} {Q : VK} {x : Str} (h0 : σ[0]? = some (some (.str x))) (hw : ∀ v, wipe ((wipe σ [1]).set 1 v) [1] = wipe σ [1]) (hi : ∀ v, ((wipe σ [1]).set 1 (some v))[1]? = some (some v)) (hz : x.length ≤ 1000000)
    (k : ∀ r H', Same H H' → H' r = some (.lst ((x.cps.toList.map letB).map V.bl)) → Q (.ref r) H') : tLc (iStr (tVar 0)) (gName 1) tYes teLet [1] σ H Q := by
  refine ⟨_, h0, x, rfl, fun D nD => lc_it walk_str (fun n H' => Same H H' ∧ H' D = some (.lst (((x.cps.toList.take n).map letB).map V.bl))) ⟨fun c o e => ?_, upd_same⟩ (fun _ _ _ _ => trivial) ?_ ?_⟩
  · rw [upd_ne (ne_of_none e nD)]
    exact e
  · rintro n v H1 H2 hn ⟨s1, hD⟩ ⟨rfl, c, hc, rfl⟩
    have hc2 : x.cps.toList[n]? = some c := by rw [Array.getElem?_toList]; exact hc
    obtain ⟨hl, hv⟩ := List.getElem?_eq_some_iff.mp hc2
    have more : x.cps.toList.take (n + 1) = x.cps.toList.take n ++ [c] := by
      rw [← hv]
      exact List.take_succ_eq_append_getElem hl
    have fin : ∀ b, b = letB c → ∃ acc, H2 D = some (.lst acc) ∧ acc.length < sizeLine ∧ (Same H (upd H2 D (.lst (acc ++ [V.bl b]))) ∧ upd H2 D (.lst (acc ++ [V.bl b])) D = some (.lst (((x.cps.toList.take (n + 1)).map letB).map V.bl))) := by
      rintro b rfl
      refine ⟨_, hD, ?_, ?_, ?_⟩
      · have : x.cps.toList.length = x.length := by simp [Str.length]
        rw [List.length_map, List.length_map, List.length_take, sizeLine_eq]
        omega
      · intro c o hc
        rw [upd_ne (ne_of_none hc nD)]
        exact s1 _ _ hc
      · rw [more, List.map_append, List.map_append]
        exact upd_same
    refine ⟨hw _, yesB ?_⟩
    refine ⟨_, hi _, "a", ⟨#[c]⟩, rfl, rfl, _, rfl, ?_⟩
    have ea : ("a" : Str).cps.toList = [97] := by decide +kernel
    have ez : ("z" : Str).cps.toList = [122] := by decide +kernel
    cases e : (!decide ((⟨#[c]⟩ : Str).cps.toList < ("a" : Str).cps.toList)) with
    | true =>
      refine if_posB rfl ⟨⟨#[c]⟩, "z", rfl, rfl, fin _ ?_⟩
      rw [← let_eq]
      rw [ea] at e
      rw [ez]
      have e' : (!decide ([c] < [97])) = true := e
      rw [e', Bool.true_and]
    | false =>
      refine if_negB rfl (fin _ ?_)
      rw [← let_eq]
      rw [ea] at e
      have e' : (!decide ([c] < [97])) = false := e
      rw [e', Bool.false_and]
  · rintro H1 ⟨s1, hD⟩
    rw [List.take_of_length_le (by simp)] at hD
    exact k D H1 s1 hD
theorem ok_fix (F : FnP K "is_fix" sFix f fd) (T : Blt2 mg) : FnOk P w K mg base CX0 1 f fd ["value"] (spFix K) := by
  refine F.ok scFix (fun vs H Q E h => ?_) (fun cdv A outer s H vs Q E hr h => ?_)
  · obtain ⟨v, rfl, _⟩ := h
    rfl
  · obtain ⟨v, rfl, k⟩ := h
    refine ⟨_, PSs.nox (pss_cons (ps_if (PW.pt (pw_or (pt_not (pt_val (pe_callB call_isi (by rfl) T.isi PyProof.Rows.boot_isinstance (pa_cons (pv 0) (pa_cons (pe_bltn (v := .ty "str") (by rfl) T.str boot_T rfl) pa_nil)))))
        (pw_or1 (pt_not (pt_chain op_le op_le pe_int (pe_callB call_len_str (by rfl) T.len PySem.boot_len (pa_cons (pv 0) pa_nil)) pe_int))))) (pss_one (ps_ret pe_bl)) pss_nil)
      (pss_one (ps_ret (pe_callB (cr_all rfl) (by rfl) T.all PyProof.Rows.boot_all (pa_cons (pe_lc (own := [("letter", 1)]) (g := gName 1) (tt := tYes) (te := teLet) rfl scFix.nd (pi_str (pv 0)) (blkOk_by (N := scFix_N) (sc := defScope sFix) (by decide +kernel))
        (fun _ _ _ _ _ => pg_name (i := 1) scFix.nd rfl (.inl rfl)) (fun _ _ _ _ _ => pts_nil) (fun _ _ _ _ _ => pe_chain op_le_str op_le_str pe_str (pv 1) pe_str)) pa_nil))))), ?_⟩
    rcases k with ⟨x, rfl, hz, k⟩ | ⟨t, ht, h1, k⟩
    · refine ⟨.str x, rfl, .str x, .ty "str", _, _, true, rfl, .ty _, .base (.str x), kit_ty (by decide +kernel), true, rfl, if_negB rfl ?_⟩
      refine ⟨.str x, rfl, x, rfl, by rw [sizeLine_eq]; omega, 1, _, rfl, rfl, _, rfl, ?_⟩
      by_cases h1 : (1 : Int) ≤ (x.length : Int)
      · refine if_posB (decide_eq_true h1) ⟨_, 8, rfl, rfl, _, rfl, ?_⟩
        by_cases h2 : (x.length : Int) ≤ 8
        · refine if_negB (by rw [decide_eq_true h2]; rfl) ?_
          show tLc (iStr (tVar 0)) (gName 1) tYes teLet [1] (L2.start scFix_N [.str x]) H fun r H1 => rAll K [r] H1 Q
          refine lets_read (by simp [L2.start]) (by intro v; simp [wipe, L2.start]) (by intro v; simp [wipe, L2.start]) hz fun r H' s' R => ⟨r, _, rfl, SqL.of R, ?_⟩
          have e : isFixB x = (x.cps.toList.map letB).all id := by
            unfold isFixB
            rw [decide_eq_true h1, decide_eq_true h2, Bool.true_and, Bool.true_and, List.all_map]
            rfl
          rw [← e]
          exact k H' s'
        · refine if_posB (by rw [decide_eq_false h2]; rfl) ?_
          have e : isFixB x = false := by
            unfold isFixB
            rw [decide_eq_false h2, Bool.false_and, Bool.and_false]
          rw [e] at k
          exact k H (fun _ _ z => z)
      · refine if_negB (decide_eq_false h1) ⟨_, rfl, if_posB rfl ?_⟩
        have e : isFixB x = false := by
          unfold isFixB
          rw [decide_eq_false h1, Bool.false_and]
        rw [e] at k
        exact k H (fun _ _ z => z)
    · exact ⟨v, rfl, v, .ty "str", _, _, false, rfl, .ty _, ht, kit_ty h1, false, rfl, if_posB rfl (if_posB rfl k)⟩
end
end K2

/-! text K2LawFix -/
set_option Elab.async false
set_option linter.all false
set_option maxRecDepth 100000
set_option maxHeartbeats 1000000
namespace K2
open PySem PySem.Spec PyProof.Rows L2 RV
/-! The law's own _law_is_fix (18 of the row's top). -/
abbrev sLFix : Stmt := top 19
theorem abc_eq : (("abcdefghijklmnopqrstuvwxyz" : Str)).cps.toList = (List.range 26).map (97 + ·) := by decide +kernel
theorem abc_let (c : Nat) : decide (c ∈ (("abcdefghijklmnopqrstuvwxyz" : Str)).cps.toList) = letB c := by
  unfold letB
  rw [abc_eq, ← Bool.decide_and]
  refine decide_eq_decide.mpr ⟨fun h => ?_, fun h => ?_⟩
  · obtain ⟨n, hn, rfl⟩ := List.mem_map.mp h
    have := List.mem_range.mp hn
    omega
  · exact List.mem_map.mpr ⟨c - 97, List.mem_range.mpr (by omega), by omega⟩
def one (c : Nat) : Str := ⟨#[c]⟩
theorem canLay_strs : ∀ cs : List Nat, (∀ c ∈ cs, PyData.strOk (one c) = true) → PyData.canLayAll0 (cs.map fun c => PyData.str (one c)) = true
  | [], _ => by simp only [List.map_nil, PyData.canLayAll0]
  | c :: cs, h => by
    simp only [List.map_cons, PyData.canLayAll0, PyData.canLay0, h c List.mem_cons_self, canLay_strs cs fun d hd => h d (List.mem_cons_of_mem _ hd), Bool.and_self]
theorem depth_strs : ∀ cs : List Nat, PyData.depthAll (cs.map fun c => PyData.str (one c)) = 0
  | [] => by simp only [List.map_nil, PyData.depthAll]
  | c :: cs => by simp [PyData.depthAll, PyData.depth, depth_strs cs]
theorem shaped_strs (cs : List Nat) (h : ∀ c ∈ cs, PyData.strOk (one c) = true) : SeqAt.shaped (.list (cs.map fun c => PyData.str (one c))) = true := by
  simp [SeqAt.shaped, PyData.canLay0, PyData.depth, canLay_strs cs h, depth_strs]
theorem dp_strs {K : PySem.W.Frag} {H : Hp} : ∀ cs : List Nat, DpAll K H (cs.map fun c => V.str (one c)) (cs.map fun c => PyData.str (one c))
  | [] => .nil
  | c :: cs => .cons (.str _) (dp_strs cs)
theorem eqv_nil (ds : List PyData) : PyData.eqv (.list ds) (.list []) = ds.isEmpty := by
  cases ds <;> rfl
def spLFix (K : PySem.W.Frag) : Sp := fun vs H Q _ => ∃ x, vs = [.str x] ∧ x.length ≤ 1000000 ∧ (∀ c ∈ x.cps.toList, PyData.strOk (one c) = true) ∧ ∀ H', Same H H' → Q (.bl (isFixB x)) H'
abbrev rNiS : R2 := fun x y H Q => ∃ (c : Nat) (z : Str), x = .str ⟨#[c]⟩ ∧ y = .str z ∧ Q (.bl (!decide (c ∈ z.cps.toList))) H
def ttBad : TT := tTest (tOp rNiS (tVar 1) (tC (.str "abcdefghijklmnopqrstuvwxyz")))
theorem bad_read {σ : L2.St} {H : Hp} {Q : VK} {x : Str} (h0 : σ[0]? = some (some (.str x))) (hw : ∀ v, wipe ((wipe σ [1]).set 1 v) [1] = wipe σ [1]) (hi : ∀ v, ((wipe σ [1]).set 1 (some v))[1]? = some (some v)) (hz : x.length ≤ 1000000)
    (k : ∀ r H', Same H H' → H' r = some (.lst ((x.cps.toList.filter fun c => !letB c).map fun c => V.str (one c))) → Q (.ref r) H') : tLc (iStr (tVar 0)) (gName 1) ttBad (tVar 1) [1] σ H Q := by
  refine ⟨_, h0, x, rfl, fun D nD => lc_it walk_str (fun n H' => Same H H' ∧ H' D = some (.lst (((x.cps.toList.take n).filter fun c => !letB c).map fun c => V.str (one c)))) ⟨fun c o e => ?_, upd_same⟩ (fun _ _ _ _ => trivial) ?_ ?_⟩
  · rw [upd_ne (ne_of_none e nD)]
    exact e
  · rintro n v H1 H2 hn ⟨s1, hD⟩ ⟨rfl, c, hc, rfl⟩
    have hc2 : x.cps.toList[n]? = some c := by rw [Array.getElem?_toList]; exact hc
    obtain ⟨hl, hv⟩ := List.getElem?_eq_some_iff.mp hc2
    have more : x.cps.toList.take (n + 1) = x.cps.toList.take n ++ [c] := by
      rw [← hv]
      exact List.take_succ_eq_append_getElem hl
    refine ⟨hw _, _, hi _, c, "abcdefghijklmnopqrstuvwxyz", rfl, rfl, _, rfl, ?_⟩
    rw [abc_let, more, List.filter_append, List.map_append]
    cases e : letB c with
    | true =>
      refine if_negB rfl ⟨s1, ?_⟩
      rw [List.filter_cons, if_neg (by rw [e]; decide)]
      simpa using hD
    | false =>
      refine if_posB rfl ⟨_, hi _, _, hD, ?_, ?_, ?_⟩
      · have h1 : x.cps.toList.length = x.length := by simp [Str.length]
        have h2 := List.length_filter_le (fun c => !letB c) (x.cps.toList.take n)
        rw [List.length_take] at h2
        rw [List.length_map, sizeLine_eq]
        omega
      · intro d o hd
        rw [upd_ne (ne_of_none hd nD)]
        exact s1 _ _ hd
      · rw [List.filter_cons, if_pos (by rw [e]; rfl)]
        exact upd_same
  · rintro H1 ⟨s1, hD⟩
    rw [List.take_of_length_le (by simp)] at hD
    exact k D H1 s1 hD
theorem no_bad (cs : List Nat) : ((cs.filter fun c => !letB c).map fun c => PyData.str (one c)).isEmpty = cs.all letB := by
  induction cs with
  | nil => rfl
  | cons c cs ih =>
    rw [List.filter_cons, List.all_cons]
    cases e : letB c with
    | true =>
      rw [if_neg (by decide), Bool.true_and]
      exact ih
    | false =>
      rw [if_pos (by decide)]
      rfl
section
variable {P : Program} {w : World} {K : PySem.W.Frag} {mg : Str → Option Value} {base : Heap} {f : Addr} {fd : FuncData}
abbrev scLFix_N : List Str := ["_law_word", "_law_sign"]
theorem scLFix : FnScope scLFix_N ["_law_word"] (defScope sLFix) := ⟨rfl, rfl, rfl, by decide +kernel, rfl, by decide +kernel, by decide +kernel⟩
theorem ok_lfix (F : FnP K "_law_is_fix" sLFix f fd) (T : Blt2 mg) : FnOk P w K mg base CX0 1 f fd ["_law_word"] (spLFix K) := by
  refine F.ok scLFix (fun vs H Q E h => ?_) (fun cdv A outer s H vs Q E hr h => ?_)
  · obtain ⟨v, rfl, _⟩ := h
    rfl
  · obtain ⟨x, rfl, hz, hS, k⟩ := h
    refine ⟨_, PSs.nox (pss_one (ps_ret (pe_and (pe_chain op_le op_le pe_int (pe_callB call_len_str (by rfl) T.len PySem.boot_len (pa_cons (pv 0) pa_nil)) pe_int)
      (pe_one (pe_cmpR (op_eqD hr.units) (pe_lc (own := [("_law_sign", 1)]) (g := gName 1) (tt := ttBad) (te := tVar 1) rfl scLFix.nd (pi_str (pv 0)) (blkOk_by (N := scLFix_N) (sc := defScope sLFix) (by decide +kernel))
        (fun _ _ _ _ _ => pg_name (i := 1) scLFix.nd rfl (.inl rfl)) (fun _ _ _ _ _ => pts_one (pt_cmpR op_notIn_sign (pv 1) pe_str rfl)) (fun _ _ _ _ _ => pv 1)) (pe_lst pa_nil) (nomark _)))))), ?_⟩
    refine ⟨.str x, rfl, x, rfl, by rw [sizeLine_eq]; omega, 1, _, rfl, rfl, _, rfl, ?_⟩
    by_cases h1 : (1 : Int) ≤ (x.length : Int)
    · refine if_posB (decide_eq_true h1) ⟨_, 8, rfl, rfl, _, rfl, ?_⟩
      by_cases h2 : (x.length : Int) ≤ 8
      · refine if_posB (decide_eq_true h2) ?_
        show tLc (iStr (tVar 0)) (gName 1) ttBad (tVar 1) [1] (L2.start scLFix_N [.str x]) H fun r H1 => tLst tNil (L2.start scLFix_N [.str x]) H1 fun y H2 => rEqD K r y H2 Q
        refine bad_read (by simp [L2.start]) (by intro v; simp [wipe, L2.start]) (by intro v; simp [wipe, L2.start]) hz fun r H' s' R => ⟨Nat.zero_le _, fun q nq => ?_⟩
        have s2 : Same H' (upd H' q (.lst [])) := fun c o e => by
          rw [upd_ne (ne_of_none e nq)]
          exact e
        refine ⟨_, .list [], .lst (SqL.of (s2 _ _ R)) (dp_strs _), .lst (SqL.of upd_same) .nil, shaped_strs _ (fun c hc => hS c ((List.mem_filter.mp hc).1)), by decide, ?_⟩
        have e : isFixB x = PyData.eqv (.list ((x.cps.toList.filter fun c => !letB c).map fun c => PyData.str (one c))) (.list []) := by
          unfold isFixB
          rw [decide_eq_true h1, decide_eq_true h2, Bool.true_and, Bool.true_and, eqv_nil, no_bad]
        rw [← e]
        exact k _ (s'.trans s2)
      · refine if_negB (decide_eq_false h2) ?_
        have e : isFixB x = false := by
          unfold isFixB
          rw [decide_eq_false h2, Bool.false_and, Bool.and_false]
        rw [e] at k
        exact k H (fun _ _ z => z)
    · refine if_negB (decide_eq_false h1) ⟨_, rfl, if_negB rfl ?_⟩
      have e : isFixB x = false := by
        unfold isFixB
        rw [decide_eq_false h1, Bool.false_and]
      rw [e] at k
      exact k H (fun _ _ z => z)
end
end K2

/-! text K2Plain -/
set_option Elab.async false
set_option linter.all false
set_option maxRecDepth 100000
set_option maxHeartbeats 1000000
namespace K2
open PySem PySem.Spec PyProof.Rows L2 RV
/-! is_plain_number (10 of the row's top). -/
abbrev sPlain : Stmt := top 11
def digs (x : Str) : Str := Txt.removeprefix x "-"
def plainB (x : Str) : Bool := Txt.isascii (digs x) && (Txt.isdigit (digs x) && (!decide ((digs x).cps.toList.head? = some 48) || decide (x = "0")))
def spPlain : Sp := fun vs H Q _ => ∃ x, vs = [.str x] ∧ x.length ≤ 1000000 ∧ (digs x).length ≤ 1000000 ∧ Q (.bl (plainB x)) H
section
variable {P : Program} {w : World} {K : PySem.W.Frag} {mg : Str → Option Value} {base : Heap} {f : Addr} {fd : FuncData}
abbrev scPlain_N : List Str := ["word", "digits"]
theorem scPlain : FnScope scPlain_N ["word"] (defScope sPlain) := ⟨rfl, rfl, rfl, by decide +kernel, rfl, by decide +kernel, by decide +kernel⟩
theorem ok_plain (F : FnP K "is_plain_number" sPlain f fd) : FnOk P w K mg base CX0 1 f fd ["word"] spPlain := by
  refine F.ok scPlain (fun vs H Q E h => ?_) (fun cdv A outer s H vs Q E hr h => ?_)
  · obtain ⟨v, rfl, _⟩ := h
    rfl
  · obtain ⟨x, rfl, hz, hd, k⟩ := h
    refine ⟨_, PSs.nox (pss_cons (ps_set (i := 1) scPlain.nd rfl (.inl rfl) (pe_bm PySem.F.plainAttrs_str PySem.F.slot_str_removeprefix rfl mt_removeprefix (pv 0) (pa_cons pe_str pa_nil)))
      (pss_cons (ps_if (PW.pt (pw_or (pt_not (pt_val (pe_bm0 PySem.F.plainAttrs_str PySem.F.slot_str_isascii rfl mt_isascii (pv 1)))) (pw_or1 (pt_not (pt_val (pe_bm0 PySem.F.plainAttrs_str PySem.F.slot_str_isdigit rfl mt_isdigit (pv 1))))))) (pss_one (ps_ret pe_bl)) pss_nil)
      (pss_one (ps_ret (pe_or (pe_cmpR op_ne (pe_ix ix_str (pv 1) pe_int (fun _ _ => rfl)) pe_str (nomark _)) (pe_one (pe_cmpR op_eq (pv 0) pe_str (nomark _)))))))), ?_⟩
    refine ⟨.str x, rfl, rfl, x, "-", rfl, rfl, by rw [sizeLine_eq]; omega, ?_⟩
    refine ⟨.str (digs x), by simp [L2.start, digs], rfl, digs x, rfl, rfl, trivial, _, rfl, ?_⟩
    cases e1 : Txt.isascii (digs x) with
    | false =>
      refine if_posB rfl (if_posB rfl ?_)
      unfold plainB at k
      rw [e1, Bool.false_and] at k
      exact k
    | true =>
      refine if_negB rfl ⟨.str (digs x), by simp [L2.start, digs], rfl, digs x, rfl, rfl, trivial, _, rfl, ?_⟩
      cases e2 : Txt.isdigit (digs x) with
      | false =>
        refine if_posB rfl ?_
        unfold plainB at k
        rw [e2, Bool.false_and, Bool.and_false] at k
        exact k
      | true =>
        refine if_negB rfl ?_
        have hp : 0 < (digs x).cps.toList.length := by
          have h := e2
          unfold Txt.isdigit at h
          have h1 := of_decide_eq_true (Bool.and_eq_true_iff.mp h).1
          have e3 : (digs x).cps.toList.length = (digs x).length := by simp [Str.length]
          rw [e3]
          exact h1
        obtain ⟨c, cs, hc⟩ : ∃ c cs, (digs x).cps.toList = c :: cs := by
          cases h : (digs x).cps.toList with
          | nil => rw [h] at hp; exact absurd hp (by decide)
          | cons c cs => exact ⟨c, cs, rfl⟩
        have hv : plainB x = (!decide (c = 48) || decide (x = "0")) := by
          unfold plainB
          rw [e1, e2, hc, Bool.true_and, Bool.true_and]
          simp
        rw [hv] at k
        refine ⟨.str (digs x), by simp [L2.start, digs], digs x, 0, c, rfl, rfl, by rw [sizeLine_eq]; omega, atI_nat (j := 0) (by rw [hc]; rfl), rfl, _, rfl, ?_⟩
        have zero : V.str ⟨#[48]⟩ = V.str "0" := by rfl
        by_cases hc0 : c = 48
        · subst hc0
          refine if_negB (by rw [decide_eq_true zero]; rfl) ⟨.str x, by simp [L2.start], rfl, ?_⟩
          have e4 : decide (V.str x = V.str "0") = (!decide ((48 : Nat) = 48) || decide (x = "0")) := by
            rw [dec_str]
            simp [Bool.beq_eq_decide_eq]
          show Q (.bl (decide (V.str x = V.str "0"))) H
          rw [e4]
          exact k
        · refine if_posB ?_ ?_
          · have ne : V.str ⟨#[c]⟩ ≠ V.str "0" := fun h => hc0 (by
              have h2 : (⟨#[c]⟩ : Str) = ⟨#[48]⟩ := V.str.inj (h.trans zero.symm)
              have h3 := congrArg (fun s : Str => s.cps.toList) h2
              simpa using h3)
            rw [decide_eq_false ne]
            rfl
          · rw [decide_eq_false hc0] at k
            simpa using k
end
end K2

/-! text K2Small -/
set_option Elab.async false
set_option linter.all false
set_option maxRecDepth 100000
set_option maxHeartbeats 1000000
namespace K2
open PySem PySem.Spec PyProof.Rows L2 RV
/-! _law_is_short (20), _law_texts (16). -/
abbrev sShort : Stmt := top 21
abbrev sTexts : Stmt := top 17
def spShort : Sp := fun vs H Q _ => ∃ x : Str, vs = [.str x] ∧ x.length ≤ 1000000 ∧ Q (.bl (decide ((x.length : Int) < 2))) H
def rep (s : String) (n : Nat) : Str := ⟨(List.replicate n (s : Str).cps.toList).flatten.toArray⟩
section
variable {P : Program} {w : World} {K : PySem.W.Frag} {mg : Str → Option Value} {base : Heap} {f : Addr} {fd : FuncData}
theorem scShort : FnScope ["_law_word"] ["_law_word"] (defScope sShort) := ⟨rfl, rfl, rfl, by decide +kernel, rfl, by decide +kernel, by decide +kernel⟩
theorem ok_short (F : FnP K "_law_is_short" sShort f fd) (T : Blt2 mg) : FnOk P w K mg base CX0 1 f fd ["_law_word"] spShort := by
  refine F.ok scShort (fun vs H Q E h => ?_) (fun cdv A outer s H vs Q E hr h => ?_)
  · obtain ⟨v, rfl, _⟩ := h
    rfl
  · obtain ⟨x, rfl, hz, k⟩ := h
    refine ⟨_, PSs.nox (pss_one (ps_ret (pe_cmpR op_lt (pe_callB call_len_str (by rfl) T.len PySem.boot_len (pa_cons (pv 0) pa_nil)) pe_int (nomark _)))), ?_⟩
    exact ⟨.str x, rfl, x, rfl, by rw [sizeLine_eq]; omega, _, _, rfl, rfl, k⟩
end
end K2

/-! text K2Texts -/
set_option Elab.async false
set_option linter.all false
set_option maxRecDepth 100000
set_option maxHeartbeats 1000000
namespace K2
open PySem PySem.Spec PyProof.Rows L2 RV
/-! a text so many times; _law_texts (16). -/
def repS (z : Str) (n : Nat) : Str := ⟨(List.replicate n z.cps).foldl (· ++ ·) #[]⟩
def rMulS : R2 := fun x y H Q => ∃ z k, x = V.str z ∧ y = V.int k ∧ 2 ≤ k ∧ k ≤ 100000 ∧ 0 < z.length ∧ z.length ≤ 100 ∧ Q (.str (repS z k.toNat)) H
theorem foldl_size (n : Nat) (z : Array Nat) : ∀ a : Array Nat, ((List.replicate n z).foldl (· ++ ·) a).size = a.size + n * z.size := by
  induction n with
  | zero => intro a; simp
  | succ n ih =>
    intro a
    rw [List.replicate_succ, List.foldl_cons, ih, Array.size_append, Nat.succ_mul]
    omega
theorem repS_len (z : Str) (n : Nat) : (repS z n).length = n * z.length := by
  show ((List.replicate n z.cps).foldl (· ++ ·) #[]).size = n * z.cps.size
  rw [foldl_size]
  simp
theorem op_mulS {X : Cx} : OpR X (binaryOp .Mult) rMulS := by
  intro pins s σ H x y v u Q I rx ry h
  obtain ⟨z, k, rfl, rfl, h1, h2, h3, h4, q⟩ := h
  obtain ⟨t, rfl⟩ := rx
  obtain ⟨t', rfl⟩ := ry
  have hm : z.length * k.toNat ≤ 100 * 100000 := Nat.mul_le_mul h4 (by omega)
  have e1 : ¬ k < 1 := by omega
  have e2 : (k == 1 || z.length == 0) = false := by
    rw [Bool.or_eq_false_iff]
    exact ⟨beq_false_of_ne (by omega), beq_false_of_ne (by omega)⟩
  refine PySem.P.mul_str ?_ (fun _ _ => ?_) (fun _ _ => ?_) ?_
  · rw [Bool.or_eq_false_iff]
    exact ⟨decide_eq_false (by omega), decide_eq_false (by omega)⟩
  · have : (z.length : Int) ≤ (2 ^ 63 - 1) / k := by
      rw [Int.le_ediv_iff_mul_le (by omega)]
      have h5 : (z.length : Int) * k ≤ 100 * k := Int.mul_le_mul_of_nonneg_right (by omega) (by omega)
      omega
    omega
  · show decide (z.length * k.toNat > sizeLine) = false
    exact decide_eq_false (by rw [sizeLine_eq]; omega)
  · rw [if_neg e1, if_neg (by rw [e2]; decide)]
    refine ⟨?_, .str (repS z k.toNat), H, I.tok _, ⟨_, rfl⟩, q⟩
    show (repS z k.toNat).length ≤ sizeLine
    rw [repS_len, Nat.mul_comm, sizeLine_eq]
    omega
/-- the words that texts are made of -/
def wordsL : List Str := (["f", "ab", "abcdefgh", "abcdefghi", "", "-", "to", "A", "a1", "f\n", "1_0", "0", "1", "6", "7", "07", "-3", "-0"] : List Str) ++ (["10", repS "9" 30, repS "9" 41, "+1", "1.0", "-", "--1", "-" ++ repS "9" 39] : List Str)
def spTexts : Sp := fun vs H Q _ => vs = [] ∧ ∀ l H', H l = none → Same H H' → H' l = some (.lst (wordsL.map V.str)) → Q (.ref l) H'
section
variable {P : Program} {w : World} {K : PySem.W.Frag} {mg : Str → Option Value} {base : Heap} {f : Addr} {fd : FuncData}
theorem scTexts : FnScope ["_law_some"] [] (defScope sTexts) := ⟨rfl, rfl, rfl, by decide +kernel, rfl, by decide +kernel, by decide +kernel⟩
theorem ok_texts (F : FnP K "_law_texts" sTexts f fd) : FnOk P w K mg base CX0 1 f fd [] spTexts := by
  refine F.ok scTexts (fun vs H Q E h => ?_) (fun cdv A outer s H vs Q E hr h => ?_)
  · obtain ⟨rfl, _⟩ := h
    rfl
  · obtain ⟨rfl, k⟩ := h
    refine ⟨_, PSs.nox (pss_cons (ps_set (i := 0) scTexts.nd rfl (.inl rfl) (pe_lst (pa_cons pe_str (pa_cons pe_str (pa_cons pe_str (pa_cons pe_str (pa_cons pe_str (pa_cons pe_str (pa_cons pe_str (pa_cons pe_str (pa_cons pe_str (pa_cons pe_str (pa_cons pe_str (pa_cons pe_str (pa_cons pe_str (pa_cons pe_str (pa_cons pe_str (pa_cons pe_str (pa_cons pe_str (pa_cons pe_str pa_nil))))))))))))))))))))
      (pss_one (ps_ret (pe_op op_cat (pv 0) (pe_lst (pa_cons pe_str (pa_cons (pe_op op_mulS pe_str pe_int) (pa_cons (pe_op op_mulS pe_str pe_int) (pa_cons pe_str (pa_cons pe_str (pa_cons pe_str (pa_cons pe_str (pa_cons (pe_op op_add_str pe_str (pe_op op_mulS pe_str pe_int)) pa_nil))))))))))))), ?_⟩
    refine ⟨(by show 18 ≤ sizeLine; decide), fun l1 n1 => ?_⟩
    refine ⟨.ref l1, by simp [L2.start], ?_⟩
    refine ⟨"9", 30, rfl, rfl, by decide, by decide, by decide, by decide, "9", 41, rfl, rfl, by decide, by decide, by decide, by decide, "9", 39, rfl, rfl, by decide, by decide, by decide, by decide, "-", repS "9" 39, rfl, rfl, ?_, ?_⟩
    · rw [repS_len]
      decide
    refine ⟨(by show 8 ≤ sizeLine; decide), fun l2 n2 => ⟨l1, l2, _, _, rfl, rfl, same_new n2 _ _ upd_same, upd_same, (by show 26 ≤ sizeLine; decide), fun l n => ?_⟩⟩
    · refine k l _ ?_ ?_ upd_same
      · cases e : H l with
        | none => rfl
        | some o =>
          rw [((same_new n1).trans (same_new n2)) _ _ e] at n
          cases n
      · exact ((same_new n1).trans (same_new n2)).trans (same_new n)
end
end K2

/-! text K2Num -/
set_option Elab.async false
set_option linter.all false
set_option maxRecDepth 100000
set_option maxHeartbeats 1000000
namespace K2
open PySem PySem.Spec PyProof.Rows L2 RV
/-! number_of (9 of the row's top), by the code's own steps. -/
abbrev sNum : Stmt := top 10
def lenS (i : Int) : Nat := (toString i : Str).length
def mxL (lo hi : Int) : Int := if (lenS hi : Int) > (lenS lo : Int) then (lenS hi : Int) else (lenS lo : Int)
def inB (lo hi n : Int) : V := if lo ≤ n ∧ n ≤ hi then .int n else .non
def spNum (K : PySem.W.Frag) : Sp := fun vs H Q _ => ∃ v lo hi, vs = [v, .int lo, .int hi] ∧ lo.natAbs.log2 < 1920 ∧ hi.natAbs.log2 < 1920 ∧ lenS lo ≤ 1000000 ∧ lenS hi ≤ 1000000 ∧
  ((∃ t, TyX K H v (.type t) ∧ kitB t "str" = some false ∧ Q .non H) ∨
   (∃ x, v = .str x ∧ x.length ≤ 1000000 ∧ (digs x).length ≤ 1000000 ∧ ((plainB x = false ∧ Q .non H) ∨ (plainB x = true ∧ mxL lo hi < (x.length : Int) ∧ Q .non H) ∨
      (plainB x = true ∧ (x.length : Int) ≤ mxL lo hi ∧ x.length ≤ 640 ∧ ∃ n, PySem.intText? x = some n ∧ Q (inB lo hi n) H))))
structure Blt3 (mg : Str → Option Value) : Prop extends Blt2 mg where
  max : mg "max" = none
section
variable {P : Program} {w : World} {K : PySem.W.Frag} {mg : Str → Option Value} {base : Heap} {f fP : Addr} {fd fdP : FuncData}
abbrev scNum_N : List Str := ["word", "least", "most", "number"]
theorem scNum : FnScope scNum_N ["word", "least", "most"] (defScope sNum) := ⟨rfl, rfl, rfl, by decide +kernel, rfl, by decide +kernel, by decide +kernel⟩
theorem ok_num (F : FnP K "number_of" sNum f fd) (T : Blt3 mg) (FP : FnP K "is_plain_number" sPlain fP fdP) (gP : mg "is_plain_number" = some (.ref fP)) : FnOk P w K mg base CX0 2 f fd ["word", "least", "most"] (spNum K) := by
  have GP : FnOk P w K mg base CX0 1 fP fdP ["word"] spPlain := ok_plain FP
  have bP : L2.Binds K fdP ["word"] [] := FP.bindsN fun _ _ _ _ _ _ us hl => match us, hl with | [_], _ => rfl
  refine F.ok scNum (fun vs H Q E h => ?_) (fun cdv A outer s H vs Q E hr h => ?_)
  · obtain ⟨v, lo, hi, rfl, _⟩ := h
    rfl
  · obtain ⟨v, lo, hi, rfl, g1, g2, g3, g4, h⟩ := h
    refine ⟨_, PSs.nox (pss_cons (ps_if (PW.pt (pw_or (pt_not (pt_val (pe_callB call_isi (by rfl) T.isi PyProof.Rows.boot_isinstance (pa_cons (pv 0) (pa_cons (pe_bltn (v := .ty "str") (by rfl) T.str boot_T rfl) pa_nil)))))
        (pw_or1 (pt_not (pt_val (pe_call GP hr (by rfl) gP FP.kp bP .nil pass0 (pa_cons (pv 0) pa_nil))))))) (pss_one (ps_ret pe_non)) pss_nil)
      (pss_cons (ps_if (pt_cmpR op_gt (pe_callB call_len_str (by rfl) T.len PySem.boot_len (pa_cons (pv 0) pa_nil)) (pe_callB (call_max2 rfl) (by rfl) T.max (by decide +kernel)
          (pa_cons (pe_callB call_len_str (by rfl) T.len PySem.boot_len (pa_cons (pe_callTy call_str_int (by rfl) T.str boot_T (pa_cons (pv 1) pa_nil)) pa_nil))
          (pa_cons (pe_callB call_len_str (by rfl) T.len PySem.boot_len (pa_cons (pe_callTy call_str_int (by rfl) T.str boot_T (pa_cons (pv 2) pa_nil)) pa_nil)) pa_nil))) (nomark _)) (pss_one (ps_ret pe_non)) pss_nil)
      (pss_cons (ps_set (i := 3) scNum.nd rfl (.inl rfl) (pe_callTy call_int_str (by rfl) T.int boot_int (pa_cons (pv 0) pa_nil)))
      (pss_one (ps_ret (pe_ifExp (pt_chain op_le op_le (pv 1) (pv 3) (pv 2)) (pv 3) pe_non)))))), ?_⟩
    have z1 : lenS lo ≤ sizeLine := by rw [sizeLine_eq]; omega
    have z2 : lenS hi ≤ sizeLine := by rw [sizeLine_eq]; omega
    rcases h with ⟨t, ht, e, k⟩ | ⟨x, rfl, hz, hd, h⟩
    · exact ⟨v, rfl, v, .ty "str", _, _, false, rfl, .ty _, ht, kit_ty e, false, rfl, if_posB rfl (if_posB rfl k)⟩
    · refine ⟨.str x, rfl, .str x, .ty "str", _, _, true, rfl, .ty _, .base (.str x), kit_ty (by decide +kernel), true, rfl, if_negB rfl ⟨.str x, rfl, x, rfl, hz, hd, plainB x, rfl, ?_⟩⟩
      rcases h with ⟨e, k⟩ | ⟨e, l, k⟩ | ⟨e, l, l2, n, hn, k⟩
      · rw [e]
        exact if_posB rfl k
      · rw [e]
        refine if_negB rfl ⟨.str x, rfl, x, rfl, by rw [sizeLine_eq]; omega, .int lo, rfl, lo, rfl, g1, toString lo, rfl, z1, .int hi, rfl, hi, rfl, g2, toString hi, rfl, z2, _, _, rfl, _, _, rfl, rfl, _, rfl, ?_⟩
        exact if_posB (decide_eq_true l) k
      · rw [e]
        refine if_negB rfl ⟨.str x, rfl, x, rfl, by rw [sizeLine_eq]; omega, .int lo, rfl, lo, rfl, g1, toString lo, rfl, z1, .int hi, rfl, hi, rfl, g2, toString hi, rfl, z2, _, _, rfl, _, _, rfl, rfl, _, rfl, ?_⟩
        refine if_negB (decide_eq_false (Int.not_lt.mpr l)) ⟨.str x, rfl, x, n, rfl, hn, l2, ?_⟩
        refine ⟨.int lo, by simp [L2.start], .int n, by simp [L2.start], lo, n, rfl, rfl, _, rfl, ?_⟩
        unfold inB at k
        by_cases h1 : lo ≤ n
        · refine if_posB (decide_eq_true h1) ⟨.int hi, by simp [L2.start], n, hi, rfl, rfl, _, rfl, ?_⟩
          by_cases h2 : n ≤ hi
          · rw [if_pos ⟨h1, h2⟩] at k
            exact if_posB (decide_eq_true h2) ⟨_, by simp [L2.start], k⟩
          · rw [if_neg fun z => h2 z.2] at k
            exact if_negB (decide_eq_false h2) k
        · rw [if_neg fun z => h1 z.1] at k
          exact if_negB (decide_eq_false h1) ⟨_, rfl, if_negB rfl k⟩
end
end K2

/-! text EKw -/
set_option Elab.async false
set_option linter.all false
set_option maxRecDepth 100000
set_option maxHeartbeats 4000000
/-! An own exception class over ValueError, called with keywords: at the library's level. -/
namespace EKw
open PySem PySem.HandSPX Builtin Builtin.ObjectAttr
section
variable {M : Model} {prog : Program} {w : World} {A : Around} {E : Value → Shared → Prop}
  {R : Result → Shared → Prop} {hp : Heap} {gs : Array GenState} {dr : Drawn} {tk : Nat} {os : OsState}
variable {nm q : Str} {C N : Addr} {bs bm : List Value} {hdct : Bool} {sn : List Str} {sub : List Value}
  {ab : Bool} {col : Option Bool} {dd : Option Addr} {k0 k1 k2 k3 k5 : Option Value}
abbrev clsO (nm q : Str) (C N : Addr) (bs bm : List Value) (hdct : Bool) (sn : List Str) (sub : List Value)
    (ab : Bool) (col : Option Bool) (dd : Option Addr) (k0 k1 k2 k3 k5 : Option Value) : Obj :=
  excClassObj nm q C N bs bm hdct sn sub ab col dd k0 k1 k2 k3 k5 "ValueError.__new__"
theorem checkNewKw (hbm : refsVE bm = true) {us : List Value} {kw : List (Str × Value)} {Q : Unit → Shared → Prop}
    (hC : hp.get? C = some (clsO nm q C N bs bm hdct sn sub ab col dd k0 k1 k2 k3 k5)) (hq : Q () ⟨hp, gs, dr, tk, os⟩) :
    wpAny M A (checkBuiltinCall "ValueError.__new__" ⟨.ref C :: us, kw⟩) Q E ⟨hp, gs, dr, tk, os⟩ := by
  have e1 : (Value.ref C :: bm).contains (.type "ValueError") = true := by
    rw [List.contains_cons, refsVE_contains _ bm hbm]; simp
  have e2 := F.excBase_ValueError.noStar
  simp only [checkBuiltinCall, F.excBase_ValueError.newKind, F.excBase_ValueError.newSplit, F.excBase_ValueError.newRow]
  repeat (first
    | refine wpAny_loadPart_at hC ?_
    | (refine wpAny_isSubtype_exc hC ?_; rw [e1])
    | refine wpAny_staticBase_exc hC ?_
    | refine wpAny_madeBy_exc hC ?_
    | simp only [bne_self_eq_false, Bool.false_eq_true, if_false]
    | wp_step)
  all_goals exact hq
theorem newKw (hbm : refsVE bm = true) {us : List Value} {kw : List (Str × Value)}
    (hC : hp.get? C = some (clsO nm q C N bs bm hdct sn sub ab col dd k0 k1 k2 k3 k5)) (hz : us.length ≤ sizeLine)
    (hq : R (.ok (.ret (.ref (hp.objs.size + 1)))) ⟨(hp.push (W.kdv_tup us)).push (excO C hp.objs.size), gs, dr, tk, os⟩) :
    codeAny (model prog w) A (.builtin "ValueError.__new__" ⟨.ref C :: us, kw⟩) R ⟨hp, gs, dr, tk, os⟩ := by
  have e0 := F.excBase_ValueError.ends
  have has : ∀ X : String, (Value.ref C :: bm).contains (.type X) = veTail.contains (.type X) := fun X => by
    rw [List.contains_cons, refsVE_contains _ bm hbm]
    rfl
  have e1 := (has "ValueError").trans (by decide : _ = true)
  have e2 := (has "AttributeError").trans (by decide : _ = false)
  have e3 := (has "NameError").trans (by decide : _ = false)
  refine codeAny_builtinAt F.excBase_ValueError.entry ?_
  unfold Builtin.«BaseException.__new__»
  refine wpAt_bind ?_
  show wpAt _ _ _ (stack >>= _) _ _ _
  refine wpAt_bind (wpAt_stack fun p below => wpAt_of_wpAny ?_)
  wp_walk
  refine wpAt_of_wpAny ?_
  rw [F.excBase_ValueError.owner]
  repeat (first
    | with_reducible refine wpAny_madeHere_exc F.excBase_ValueError.canon hC ?_
    | with_reducible refine wpAny_loadPart_at hC ?_
    | (with_reducible refine wpAny_isSubtype_exc hC ?_; first | rw [e1] | rw [e2] | rw [e3])
    | wp_step)
  show R _ _
  rw [Heap.size_push]
  exact hq
theorem typeCallKw (hbm : refsVE bm = true) {us : List Value} {kw : List (Str × Value)} {fI : Addr} {Q : Fin → Shared → Prop}
    (hC : hp.get? C = some (clsO nm q C N bs bm hdct sn sub ab col dd k0 k1 k2 k3 k5))
    (hi : W.Looks (model prog w) hp (typeLookup (.ref C) "__init__") (some (.ref fI)))
    (hb : ∀ self, W.Looks (model prog w) hp (bindSpecial (.ref fI) self) (.ref fI, [self])) (hz : us.length ≤ sizeLine)
    (hq : codeAny (model prog w) A (.call (.ref fI) ⟨.ref (hp.objs.size + 1) :: us, kw⟩)
      (fun r s' => match r with
        | .ok (.ret v) => v = .none ∧ Q (.done (.ret (.ref (hp.objs.size + 1)))) s'
        | .ok _ => False
        | .error e => E e s')
      ⟨(hp.push (W.kdv_tup us)).push (excO C hp.objs.size), gs, dr, tk, os⟩) :
    wpAny (model prog w) A (Builtin.«type.__call__» ⟨.ref C :: us, kw⟩) Q E ⟨hp, gs, dr, tk, os⟩ := by
  repeat (first
    | with_reducible refine wpAny_loadPart_at hC ?_
    | with_reducible refine wpAny_madeBy_exc hC ?_
    | wp_step)
  refine codeAny_call_builtin_code (Code.quiet_builtin _ F.excBase_ValueError.quiet) (checkNewKw hbm hC ?_)
  refine newKw hbm hC hz ?_
  show wpAny _ _ _ _ _ _
  have kk : ∀ b o, hp.get? b = some o → ((hp.push (W.kdv_tup us)).push (excO C hp.objs.size)).get? b = some o :=
    fun b o e => Heap.get?_push_of_some _ (Heap.get?_push_of_some _ e)
  have hC2 := kk _ _ hC
  have hnew : ((hp.push (W.kdv_tup us)).push (excO C hp.objs.size)).get? (hp.objs.size + 1) = some (excO C hp.objs.size) := by
    heap_get
  have hself : (Value.ref C :: bm).contains (.ref C) = true := by simp
  have i2 := hi.keeps kk
  have b2 := (hb (.ref (hp.objs.size + 1))).keeps kk
  unfold isInstance
  repeat (first
    | with_reducible refine wpAny_loadPart_at hnew ?_
    | (with_reducible refine wpAny_isSubtype_exc hC2 ?_; rw [hself])
    | wp_step)
  show wpAny _ _ (typeLookup (.ref C) _) _ _ _
  refine i2.at (wpAny_holding (wpAny_bind (b2.at ?_)))
  refine wpAny_bind (wpAny_call (codeAny_mono hq fun r s' z => ?_))
  rcases r with e | (v | _ | _ | _) <;> first
    | exact z
    | exact z.elim
    | (obtain ⟨rfl, z⟩ := z; first
        | exact wpAny_pure (wpAny_pure z)
        | (wp_walk; exact z))
theorem callKw (hbm : refsVE bm = true) {us : List Value} {kw : List (Str × Value)} {fI : Addr}
    (hC : hp.get? C = some (clsO nm q C N bs bm hdct sn sub ab col dd k0 k1 k2 k3 k5))
    (hi : W.Looks (model prog w) hp (typeLookup (.ref C) "__init__") (some (.ref fI)))
    (hb : ∀ self, W.Looks (model prog w) hp (bindSpecial (.ref fI) self) (.ref fI, [self])) (hz : us.length ≤ sizeLine)
    (hq : codeAny (model prog w) (A.under (.builtin "type.__call__" ⟨.ref C :: us, kw⟩)) (.call (.ref fI) ⟨.ref (hp.objs.size + 1) :: us, kw⟩)
      (W.InitBack (hp.objs.size + 1) R) ⟨(hp.push (W.kdv_tup us)).push (excO C hp.objs.size), gs, dr, tk, os⟩) :
    codeAny (model prog w) A (.call (.ref C) ⟨us, kw⟩) R ⟨hp, gs, dr, tk, os⟩ := by
  have f1 := tc_lookup
  have f2 := tc_bind (.ref C)
  have hTy : (⟨hp, gs, dr, tk, os⟩ : Shared).TypeIs (.ref C) "type" := ⟨_, hC, rfl⟩
  refine codeAny_of_tree ?_
  show wpAny _ _ (callAny (.ref C) _) _ _ _
  repeat (any_goals (first
    | assumption
    | with_reducible refine wpAny_loadPart_at hC ?_
    | wp_step))
  refine ⟨rfl, ?_⟩
  refine codeAny_call_builtin_at (Code.quiet_builtin _ (by decide +kernel)) entry_typeCall
    (wpAny_check_type_call_sub hC (typeCallKw hbm hC hi hb hz ?_))
  refine codeAny_mono hq fun r s' z => ?_
  rcases r with e | (v | _ | _ | _) <;> exact z
end
end EKw

/-! text ErrV -/
set_option Elab.async false
set_option linter.all false
set_option maxRecDepth 100000
set_option maxHeartbeats 4000000
/-! Own exceptions (over ValueError, with an __init__ of their own) held as values: made, their fields read, asked by isinstance. -/
namespace EV
open PySem PySem.Spec PyProof.Rows L2
/-- an error of the class at C stands at a; its dict at d holds fs -/
structure ErrAt (H : Hp) (a C d : Addr) (fs : List (Str × V)) : Prop where
  ob : H a = some (exo a C (some d))
  dc : H d = some (exd d fs)
/-- C(..), the class's own __init__ keeping sp, handed the values vs -/
def tErr (C : Addr) (sp : Sp) (gV : List V → List V) (E : XK) (t : TA) : TE := fun σ H Q => t σ H fun vs H1 => vs.length ≤ 1000 ∧
  ∀ a, H1 a = none → sp (.ref a :: gV vs) (upd H1 a (exo a C none)) (fun v H2 => v = .non ∧ Q (.ref a) H2) E
section
variable {X : Cx} {CX : CXT} {k n : Nat} {fI C : Addr} {fd : FuncData} {ps ks : List Str} {sp : Sp} {E : XK} {x : Str}
  {p pos : Pos} {e : Expr} {es : List Expr} {kws : List Keyword} {t tk : TA}
theorem run_err {pins : List (Addr × Obj)} {σ : L2.St} {H : Hp} {s : Shared} {Q : VK} {us bs : List Value} {kw : List (Str × Value)} {vs : List V}
    (T : OexC X.K C) (iC : PySem.W.findIn X.K (.ref C) "__init__" = some (some (.ref fI)))
    (tI : PySem.W.typeIn X.K (.ref fI) = some (.type "function"))
    (F1 : FnOk X.prog X.w X.K X.mg X.base CX k fI fd ps sp) (hr : Room (k + 1) X.A)
    (hb : ∀ (s' : Shared) (a : Addr), X.K.In s'.heap → BindsTo s' fd ⟨.ref a :: us, kw⟩ (ps.zip (.ref a :: bs)))
    (hx : Passes CX X E) (I : Inv X pins σ H s) (r : Vals vs bs) (hz : us.length ≤ sizeLine)
    (h : ∀ a, H a = none → sp (.ref a :: vs) (upd H a (exo a C none)) (fun v H2 => v = .non ∧ Q (.ref a) H2) E) :
    wpAny (model X.prog X.w) X.A (call (.ref C) us kw) (EP X pins σ Q) X.xe s := by
  obtain ⟨nm, q, N, bbs, bm, sn, sub, ab, col, dd, k0, k1, k2, k3, k5, hC, hbm⟩ := T.cls
  obtain ⟨hp, g, dr, tk, os⟩ := s
  have hsz : hp.objs.size ≤ hp.objs.size + 1 := Nat.le_succ _
  have hq := h (hp.objs.size + 1) (I.hok.fresh hsz)
  have kk : ∀ b o, hp.get? b = some o → ((hp.push (PySem.W.kdv_tup us)).push (PySem.HandSPX.excO C hp.objs.size)).get? b = some o :=
    fun b o z => Heap.get?_push_of_some _ (Heap.get?_push_of_some _ z)
  have hget : ((hp.push (PySem.W.kdv_tup us)).push (PySem.HandSPX.excO C hp.objs.size)).get? (hp.objs.size + 1) = some (PySem.HandSPX.excO C hp.objs.size) := by
    heap_get
  have I2 := I.laid (t' := tk) (a := hp.objs.size + 1) (o := exo (hp.objs.size + 1) C none) kk hsz (exo_ok hget)
  have r2 : Vals (V.ref (hp.objs.size + 1) :: vs) (Value.ref (hp.objs.size + 1) :: bs) := .cons rfl r
  refine wpAny_call (EKw.callKw hbm (I.kIn _ _ hC) (PySem.W.looks_findIn I.kIn iC) (fun self => PySem.W.bind_fn I.kIn self tI) hz
    (codeAny_mono (F1.run _ X.stack _ _ ⟨Value.ref (hp.objs.size + 1) :: us, kw⟩ _ _ _ E (hr.make C us kw)
      (I2.env0.make C us kw) (hb _ _ I2.kIn) r2 hq) fun r s' hq' => ?_))
  cases r with
  | error er => exact hx pins σ _ _ er s' I2 hq'
  | ok fl =>
    cases fl with
    | ret u =>
      obtain ⟨v, H', I3, rv, ev, q3⟩ := I2.after hq'
      subst ev
      exact ⟨rv, V.ref (hp.objs.size + 1), H', I3, rfl, q3⟩
    | _ => exact False.elim hq'
/-- C(e, ..) -/
theorem pe_err (T : OexC X.K C) (iC : PySem.W.findIn X.K (.ref C) "__init__" = some (some (.ref fI)))
    (tI : PySem.W.typeIn X.K (.ref fI) = some (.type "function"))
    (F1 : FnOk X.prog X.w X.K X.mg X.base CX k fI fd ps sp) (hr : Room (k + 1) X.A) (hb : Binds X.K fd ps []) (hx : Passes CX X E)
    (hg : Gl X x) (hm : X.mg x = some (.ref C)) (ha : PA X (e :: es) t)
    (hdb : (x == ("__debug__" : Str)) = false := by decide)
    (he : starEach (e :: es) X.env = (false, eval e X.env) :: starEach es X.env := by rfl)
    (hpl : (backTo pos (starEach es X.env)).any (·.1) = false := by rfl) :
    PE X (.Call (.Name x p) (e :: es) [] pos) (tErr C sp (fun vs => vs) E t) := by
  refine ⟨fun pins s σ H Q I h => ?_⟩
  refine wpAny_Call_Name_kw (ld_glob I hg hm ?_ hdb)
  refine PySem.W.callWith_K (h₀ := X.base) I.ok.mod.kin T.kC (thn (ha.run pos pins s σ H _ I h) fun us s1 ⟨vs, H1, I1, r1, hz, q1⟩ => ⟨I1.kIn, ?_⟩) he hpl
  show wpAny _ _ (call (.ref C) us) _ _ _
  have hl : vs.length = us.length := r1.length
  refine run_err T iC tI F1 hr (fun s' a X' => ?_) hx I1 r1 ?_ q1
  · have hn := F1.len _ _ _ _ (q1 _ (I1.hok.fresh (Nat.le_refl _)))
    have z := hb s' (.ref a :: us) X' (by
      rw [List.append_nil, ← hn, List.length_cons, List.length_cons, hl])
    rw [List.append_nil] at z
    exact z
  · rw [← hl, sizeLine_eq]
    omega
/-- C(f = e, ..), no argument by position -/
theorem pe_errK {g : List Value → List Value → List Value} {gV : List V → List V → List V} (T : OexC X.K C)
    (iC : PySem.W.findIn X.K (.ref C) "__init__" = some (some (.ref fI)))
    (tI : PySem.W.typeIn X.K (.ref fI) = some (.type "function"))
    (F1 : FnOk X.prog X.w X.K X.mg X.base CX k fI fd ps sp) (hr : Room (k + 1) X.A) (hx : Passes CX X E)
    {gk : List Value → List Value} {gv : List V → List V}
    (hb : ∀ (s' : Shared) (a : Addr) (ws : List Value), X.K.In s'.heap → ws.length = ks.length → BindsTo s' fd ⟨[.ref a], ks.zip ws⟩ (ps.zip (.ref a :: gk ws)))
    (hgv : ∀ {zs : List V} {ws : List Value}, zs.length = ks.length → Vals zs ws → Vals (gv zs) (gk ws))
    (hg : Gl X x) (hm : X.mg x = some (.ref C)) (hkw : PK X kws tk)
    (hall : (backToKw pos (keywordEach kws X.env)).all (·.1.isSome) = true := by rfl)
    (hks : (backToKw pos (keywordEach kws X.env)).filterMap (·.1) = ks := by rfl)
    (hdb : (x == ("__debug__" : Str)) = false := by decide)
    (hpl : ((backTo pos (starEach [] X.env)).any (·.1) || (backToKw pos (keywordEach kws X.env)).any (·.1.isNone)) = false := by rfl) :
    PE X (.Call (.Name x p) [] kws pos) (fun σ H Q => tk σ H fun zs H1 => zs.length = ks.length ∧
      ∀ a, H1 a = none → sp (.ref a :: gv zs) (upd H1 a (exo a C none)) (fun v H2 => v = .non ∧ Q (.ref a) H2) E) := by
  refine ⟨fun pins s σ H Q I h => ?_⟩
  refine wpAny_Call_Name_kw (ld_glob I hg hm ?_ hdb)
  refine PySem.W.callWith_KW0 (h₀ := X.base) I.ok.mod.kin T.kC hall ?_ hpl
  refine thn (hkw.run pos pins s σ H _ I h) fun ws s2 ⟨zs, H2, I2, rz, l2, q2⟩ => ⟨I2.kIn, ?_⟩
  rw [hks]
  have hl : zs.length = ws.length := rz.length
  exact run_err T iC tI F1 hr (fun s' a X' => hb s' a ws X' (by rw [← hl, l2])) hx I2 (hgv l2 rz) (Nat.zero_le _) q2
end
/-! ### a field is read -/
def tEf (K : PySem.W.Frag) (te : TE) (f : Str) : TE := fun σ H Q => te σ H fun x H1 => ∃ a C d fs v, x = .ref a ∧ ErrAt H1 a C d fs ∧ XfC K C ∧
  PySem.W.findIn K (.ref C) f = some none ∧ fs.lookup f = some v ∧ Q v H1
theorem inst_of {X : Cx} {pins : List (Addr × Obj)} {σ : L2.St} {H : Hp} {s : Shared} {a C d : Addr} {fs : List (Str × V)} (I : Inv X pins σ H s) (r : ErrAt H a C d fs) :
    ∃ (ox od : Obj) (mA : Str → Option Value), PySem.W.InstAt s.heap a ox C (some od) ∧ s.heap.get? d = some od ∧ (∀ n, PySem.W.lookIn n od = some (mA n)) ∧ ∀ n, RelO (fs.lookup n) (mA n) := by
  obtain ⟨t1, ha⟩ := exo_at I.hok r.ob
  obtain ⟨mA, hns, rel⟩ := exd_at I.hok r.dc
  obtain ⟨od, ho, hl⟩ := lookIn_ns hns
  exact ⟨_, od, mA, ⟨ha, rfl, rfl, ho⟩, ho, hl, rel⟩
theorem pe_ef {X : Cx} {e : Expr} {te : TE} {pos : Pos} {f : Str} (he : PE X e te) (hb : attributeBase e f X.env (eval e X.env) = eval e X.env := by rfl) :
    PE X (.Attribute e f pos) (tEf X.K te f) := by
  refine ⟨fun pins s σ H Q I h => ?_⟩
  refine attr_of hb (thn (he.run pins s σ H _ I h) fun u s1 hh => ?_)
  obtain ⟨x, H1, I1, rx, a, C, d, fs, v, ex, r, T, hno, l, q⟩ := hh
  subst ex
  obtain rfl : u = Value.ref a := rx
  obtain ⟨ox, od, mA, J, ho, hl, rel⟩ := inst_of I1 r
  obtain ⟨w, hw, rw'⟩ := RelO.some_of (v := v) (o := mA f) (by rw [← l]; exact rel f)
  exact HandSPX.exc_get I1.kIn J T.ga T.gg T.exC (PySem.W.findObj_own T.hdC hno rfl (by rw [hl, hw])) (handed_of rw') ⟨v, H1, I1.tok _, rw', q⟩
/-! ### isinstance -/
/-- an error of the class at C: with an own dict, or without -/
def IsErr (H : Hp) (a C : Addr) : Prop := (∃ d fs, ErrAt H a C d fs) ∨ H a = some (ExO (.ref C) a)
theorem kit_err {X : Cx} {pins : List (Addr × Obj)} {σ : L2.St} {H : Hp} {s : Shared} {a C : Addr} (I : Inv X pins σ H s) (r : IsErr H a C) (T : L2.ExcC X.K C) :
    ∃ P : Heap → Prop, PySem.W.KitX X.K (.ref a) (.ref C) P ∧ P s.heap := by
  have hcl : (PySem.W.clsIn X.K C).isSome = true := by
    obtain ⟨cd, hc, _⟩ := PySem.W.any_some T.hd
    rw [hc]
    rfl
  rcases r with ⟨d, fs, r⟩ | r
  · obtain ⟨ox, od, mA, J, _⟩ := inst_of I r
    exact ⟨_, PySem.W.kitx_exc hcl T.hg T.hk T.hs T.ha T.hn T.ht T.hm, J⟩
  · obtain ⟨⟨oe, vs, ho, hz, hd, _⟩, _, _⟩ := I.hok a _ r
    refine ⟨_, PySem.W.kitx_exc (ox := oe) (od := none) hcl T.hg T.hk T.hs T.ha T.hn T.ht T.hm, ?_⟩
    obtain ⟨oc, od, oda, osl⟩ := oe
    obtain ⟨h1, h2⟩ := hz
    dsimp only at h1 h2 hd
    subst h1 h2 hd
    exact ⟨ho, rfl, rfl, trivial⟩
def rIsErr (K : PySem.W.Frag) : List V → Hp → VK → Prop := fun xs H Q => ∃ (a C : Addr) (c : V) (u : Value) (b : Bool), xs = [.ref a, c] ∧ IsErr H a C ∧ L2.ExcC K C ∧ ClsV c u ∧
  PySem.W.kitOne K (.ref C) u = some b ∧ Q (.bl b) H
def rIsErrT (K : PySem.W.Frag) : List V → Hp → VK → Prop := fun xs H Q => ∃ (a C tp : Addr) (cs : List V) (us : List Value) (b : Bool), xs = [.ref a, .ref tp] ∧ IsErr H a C ∧ L2.ExcC K C ∧
  H tp = some (.tup cs) ∧ Paired ClsV cs us ∧ PySem.W.kitAny K (.ref C) us = some b ∧ Q (.bl b) H
theorem call_isErr {X : Cx} : CallR X (.builtin "isinstance") (rIsErr X.K) := by
  intro pins s σ H xs us Q I r h
  obtain ⟨a, C, c, u, b, rfl, hi, T, k, e, q⟩ := h
  obtain ⟨u1, u2, rfl, r1, r2⟩ := vals2 r
  have e2 := k.eq r2
  subst e2
  cases (show u1 = Value.ref a from r1)
  obtain ⟨P, Z, p⟩ := kit_err I hi T
  exact PySem.W.kia_one Z I.kIn p e (fun z => nomatch z) fun tk => ⟨.bl b, H, I.tok tk, rfl, q⟩
theorem call_isErrT {X : Cx} : CallR X (.builtin "isinstance") (rIsErrT X.K) := by
  intro pins s σ H xs us Q I r h
  obtain ⟨a, C, tp, cs, ws, b, rfl, hi, T, hT, k, e, q⟩ := h
  obtain ⟨u1, u2, rfl, r1, r2⟩ := vals2 r
  cases (show u1 = Value.ref a from r1)
  cases (show u2 = Value.ref tp from r2)
  obtain ⟨P, Z, p⟩ := kit_err I hi T
  obtain ⟨_, its, rv, o, h1, h2, n, h3⟩ := (show ObjOk X.prog X.w H s.heap tp (.tup cs) from I.hok tp _ hT)
  have e3 := ClsV.all k rv
  subst e3
  obtain ⟨oc, od, dt, sl⟩ := o
  simp only at h2 h3
  subst h2 h3
  exact PySem.W.kia_tup Z I.kIn p h1 e (fun z => nomatch z) fun tk => ⟨.bl b, H, I.tok tk, rfl, q⟩
end EV

/-! text ErrF -/
set_option Elab.async false
set_option linter.all false
set_option maxRecDepth 100000
set_option maxHeartbeats 4000000
/-! What the written part must say of own exception classes, as one Bool; a Hook by any Bool. -/
namespace EF
open PySem PySem.Spec PyProof.Rows L2 EV He
abbrev veT : List Value := [.type "ValueError", .type "Exception", .type "BaseException", .type "object"]
def clsShape (K : PySem.W.Frag) (C : Addr) (bm : List Value) : Bool := match K.lookup C with
  | some ⟨.type "type", _, .cls cd, sl⟩ => decide (cd.mro = .ref C :: bm) && (cd.hasDict && (!cd.hasDel && (match sl.toList with
    | [_, _, _, _, some (.builtin n), _] => n == "ValueError.__new__"
    | _ => false)))
  | _ => false
theorem clsShape_ok {K : PySem.W.Frag} {C : Addr} {bm : List Value} (h : clsShape K C bm = true) :
    ∃ nm q N bs sn sub ab col dd k0 k1 k2 k3 k5, K.lookup C = some (excClassObj nm q C N bs bm true sn sub ab col dd k0 k1 k2 k3 k5 "ValueError.__new__") := by
  unfold clsShape at h
  split at h
  · rename_i dd cd sl ho
    obtain ⟨h1, h⟩ := ba h
    obtain ⟨h2, h⟩ := ba h
    obtain ⟨h3, h4⟩ := ba h
    split at h4
    · rename_i k0 k1 k2 k3 n k5 hs
      obtain ⟨nm, bs, mro, ns, qn, hd, sn, sub, ab, col, del⟩ := cd
      have e1 : mro = .ref C :: bm := of_decide_eq_true h1
      have e2 : hd = true := h2
      have e3 : del = false := by simpa using h3
      have e4 : n = "ValueError.__new__" := beq_iff_eq.mp h4
      have e5 : sl = #[k0, k1, k2, k3, some (.builtin n), k5] := by
        obtain ⟨l⟩ := sl
        simp only at hs
        rw [hs]
      subst e1 e2 e3 e4 e5
      exact ⟨nm, qn, ns, bs, sn, sub, ab, col, dd, k0, k1, k2, k3, k5, ho⟩
    · cases h4
  · cases h
/-- the classes above x, own ones, then ValueError's -/
abbrev above (K : PySem.W.Frag) (bs : List Str) : List Value := bs.map (fun b => Value.ref (ga K b)) ++ veT
def errB (K : PySem.W.Frag) (x : Str) (bs : List Str) : Bool :=
  clsShape K (ga K x) (above K bs) && (eqO (PySem.W.findIn K (.ref (ga K x)) "__setattr__") (some (some (.builtin "object.__setattr__"))) &&
  (eqO (PySem.W.findIn K (.ref (ga K x)) "__getattribute__") (some (some (.builtin "BaseException.__getattribute__"))) &&
  (eqO (PySem.W.findIn K (.ref (ga K x)) "__getattr__") (some none) && (PySem.W.keepIn K (.ref (ga K x)) &&
  (eqO (PySem.W.findIn K (.ref (ga K x)) "__class__") (some (some (.builtin "object.__class__"))) && eqO (PySem.W.nsIn K mainGlobals x) (some (some (.ref (ga K x)))))))))
structure ErrK (K : PySem.W.Frag) (x : Str) (bs : List Str) : Prop where
  ox : OexC K (ga K x)
  xf : XfC K (ga K x)
  ex : L2.ExcC K (ga K x)
  hc : (PySem.W.clsIn K (ga K x)).isSome = true
  sub : ∀ v, PySem.W.subIn K (.ref (ga K x)) v = some ((Value.ref (ga K x) :: above K bs).contains v)
  nm : PySem.W.nsIn K mainGlobals x = some (some (.ref (ga K x)))
/-- what isinstance asks of every object -/
def objB (K : PySem.W.Frag) : Bool := eqO (PySem.W.specialIn K (.builtin "object.__class__") "__get__") (some (some (.builtin "getset_descriptor.__get__"))) && decide (PySem.W.takesIn K (.builtin "object.__class__") = some true)
theorem refs_above {K : PySem.W.Frag} (bs : List Str) : PySem.HandSPX.refsVE (above K bs) = true := by
  induction bs with
  | nil => exact (by decide : PySem.HandSPX.refsVE veT = true)
  | cons b bs ih => exact ih
theorem errB_ok {K : PySem.W.Frag} {x : Str} {bs : List Str} (h : errB K x bs = true) (ho : objB K = true) : ErrK K x bs := by
  obtain ⟨h1, h⟩ := ba h
  obtain ⟨h2, h⟩ := ba h
  obtain ⟨h3, h⟩ := ba h
  obtain ⟨h4, h⟩ := ba h
  obtain ⟨h5, h⟩ := ba h
  obtain ⟨h6, h7⟩ := ba h
  obtain ⟨o1, o2⟩ := ba ho
  obtain ⟨nm, q, N, bbs, sn, sub, ab, col, dd, k0, k1, k2, k3, k5, hC⟩ := clsShape_ok h1
  have hcl : PySem.W.clsIn K (ga K x) = some { name := nm, bases := bbs, mro := .ref (ga K x) :: above K bs, ns := N, qualname := q, hasDict := true, slotNames := sn, subclasses := sub, abstract := ab, collection := col, hasDel := false } := by
    unfold PySem.W.clsIn
    rw [hC] <;> rfl
  have hsub : ∀ v, PySem.W.subIn K (.ref (ga K x)) v = some ((Value.ref (ga K x) :: above K bs).contains v) := fun v => by
    show PySem.W.mroIn K (ga K x) v = _
    unfold PySem.W.mroIn
    rw [hcl]
    rfl
  have hbase : PySem.W.subIn K (.ref (ga K x)) (.type "BaseException") = some true := by
    rw [hsub, List.contains_cons, PySem.HandSPX.refsVE_contains _ _ (refs_above bs)]
    rfl
  have hobj : PySem.W.mroIn K (ga K x) (.type "object") = some true := by
    have e := hsub (.type "object")
    rw [List.contains_cons, PySem.HandSPX.refsVE_contains _ _ (refs_above bs)] at e
    exact e.trans rfl
  have hty : PySem.W.typeIn K (.ref (ga K x)) = some (.type "type") := by
    show (K.lookup (ga K x)).map (·.cls) = _
    rw [hC] <;> rfl
  have hd : PySem.W.hasDictIn K (ga K x) = true := by
    unfold PySem.W.hasDictIn
    rw [hcl] <;> rfl
  exact ⟨⟨⟨nm, q, N, bbs, above K bs, sn, sub, ab, col, dd, k0, k1, k2, k3, k5, hC, refs_above bs⟩, eqO_ok h2, hbase, hty, h5⟩,
    ⟨eqO_ok h3, eqO_ok h4, hbase, hd⟩, ⟨eqO_ok h3, eqO_ok h4, hbase, hd, eqO_ok h6, eqO_ok o1, of_decide_eq_true o2, hobj⟩, by rw [hcl]; rfl, hsub, eqO_ok h7⟩
theorem veT_ref (c : Addr) : veT.contains (.ref c) = false := by
  simp [List.contains_cons]
theorem contains_refs {K : PySem.W.Frag} (bs : List Str) (c : Addr) : (above K bs).contains (.ref c) = decide (c ∈ bs.map (ga K)) := by
  induction bs with
  | nil => exact (veT_ref c).trans (by simp)
  | cons b bs ih =>
    show (Value.ref (ga K b) :: above K bs).contains (.ref c) = _
    rw [List.contains_cons, ih]
    by_cases e : c = ga K b
    · subst e
      simp
    · have e2 : (Value.ref c == Value.ref (ga K b)) = false := by
        rw [beq_eq_false_iff_ne]
        intro z
        exact e (Value.ref.inj z)
      rw [e2]
      simp [e]
/-- isinstance of an error of the class x against the class y -/
theorem kit {K : PySem.W.Frag} {x y : Str} {bs cs : List Str} (X : ErrK K x bs) (Y : ErrK K y cs) :
    PySem.W.kitOne K (.ref (ga K x)) (.ref (ga K y)) = some (decide (ga K y = ga K x ∨ ga K y ∈ bs.map (ga K))) := by
  unfold PySem.W.kitOne
  by_cases e : ga K y = ga K x
  · rw [e, if_pos (by simp)]
    simp
  · have ne : (Value.ref (ga K x) == Value.ref (ga K y)) = false := by
      rw [beq_eq_false_iff_ne]
      intro z
      exact e (Value.ref.inj z).symm
    rw [ne, if_neg Bool.false_ne_true]
    unfold PySem.W.kitCls
    have t : ((PySem.W.clsIn K (ga K y)).isSome && PySem.W.typeIn K (.ref (ga K y)) == some (.type "type")) = true := by
      rw [Y.hc, Y.ox.tyC]
      rfl
    show (if ((PySem.W.clsIn K (ga K y)).isSome && PySem.W.typeIn K (.ref (ga K y)) == some (.type "type")) = true then _ else _) = _
    rw [if_pos t, X.sub, List.contains_cons, contains_refs]
    have e3 : (Value.ref (ga K y) == Value.ref (ga K x)) = false := by
      rw [beq_eq_false_iff_ne]
      intro z
      exact e (Value.ref.inj z)
    rw [e3, Bool.false_or]
    simp [e]
/-- .. against a built-in class -/
theorem kitT {K : PySem.W.Frag} {x : Str} {bs : List Str} (X : ErrK K x bs) {T : String} (hm : PySem.W.kitMeta T = true) :
    PySem.W.kitOne K (.ref (ga K x)) (.type T) = some (veT.contains (.type T)) := by
  unfold PySem.W.kitOne
  rw [if_neg (fun z => nomatch (beq_iff_eq.mp z : Value.ref _ = Value.type _))]
  show (if PySem.W.kitMeta T = true then PySem.W.subIn K (.ref (ga K x)) (.type T) else none) = _
  rw [if_pos hm, X.sub, List.contains_cons, PySem.HandSPX.refsVE_contains _ _ (refs_above bs)]
  rfl
/-! ### a Hook by a Bool -/
def obsX (ck : PySem.W.Frag → Bool) (fn : List DefD) (K : PySem.W.Frag) : AlD := (ck K && fn.all fun d => d.ok K, fn.map fun d => fnW K d.at_)
def SaysX (ck : PySem.W.Frag → Bool) (fn : List DefD) (K : PySem.W.Frag) : Prop := obsX ck fn K = valD fn
def obsXG (n : Nat) (ck : PySem.W.Frag → Bool) (fn : List DefD) (g : Addr → Option Obj) : AlD := obsX ck fn (frG g (asD g n))
def hookX (n : Nat) (ck : PySem.W.Frag → Bool) (fn : List DefD) : PySem.W.Hook where
  α := AlD
  obs := fun s => obsXG n ck fn s.heap.get?
  val := fun _ => valD fn
  says := fun _ h => ∃ K : PySem.W.Frag, K.In h ∧ SaysX ck fn K
  of := fun _ _ e => ⟨_, frG_in, e⟩
  keeps := fun _ _ _ ⟨K, hK, c⟩ k => ⟨K, PySem.W.Frag.In.keeps hK k, c⟩
theorem obsXG_eq {n : Nat} {ck : PySem.W.Frag → Bool} {fn : List DefD} {g : Addr → Option Obj} {s : Shared} (h : ∀ a, g a = s.heap.get? a) : obsXG n ck fn g = (hookX n ck fn).obs s := by
  rw [show g = s.heap.get? from funext h]
  rfl
section
variable {ck : PySem.W.Frag → Bool} {fn : List DefD} {K : PySem.W.Frag}
theorem SaysX.chk (c : SaysX ck fn K) : ck K = true := (ba (congrArg (fun z : AlD => z.1) c : (ck K && fn.all fun d => d.ok K) = true)).1
theorem SaysX.def_ (c : SaysX ck fn K) (i : Nat) {d : DefD} (h : fn[i]? = some d := by rfl) : ∃ fd, FunD K d.name d.qual d.params d.body d.scope (d.dvs K) (d.kws K) (fAd K d.at_) fd := by
  have c2 := (ba (congrArg (fun z : AlD => z.1) c : (ck K && fn.all fun d => d.ok K) = true)).2
  have e : fn.map (fun d => fnW K d.at_) = fn.map DefD.val := congrArg (fun z : AlD => z.2) c
  have e2 : (fn.map fun d => fnW K d.at_)[i]? = (fn.map DefD.val)[i]? := by rw [e]
  rw [List.getElem?_map, List.getElem?_map, h] at e2
  exact DefD.funD (Option.some.inj e2) (List.all_eq_true.mp c2 d (List.mem_of_getElem? h))
end
end EF

/-! text ErrI -/
set_option Elab.async false
set_option linter.all false
set_option maxRecDepth 100000
set_option maxHeartbeats 4000000
/-! Own exception classes whose __init__ keeps its one or two parameters as fields: made by position and by name. -/
namespace EI
open PySem PySem.Spec PyProof.Rows L2 EV He EF
/-- an error laid anew at a, its dict at d -/
def mkE (H : Hp) (a d C : Addr) (fs : List (Str × V)) : Hp := upd (upd H d (exd d fs)) a (exo a C (some d))
theorem mkE_at {H : Hp} {a d C : Addr} {fs : List (Str × V)} (h : d ≠ a) : ErrAt (mkE H a d C fs) a C d fs :=
  ⟨upd_same, by
    unfold mkE
    rw [upd_ne h, upd_same]⟩
theorem mkE_same {H : Hp} {a d C : Addr} {fs : List (Str × V)} (na : H a = none) (nd : H d = none) : Same H (mkE H a d C fs) := fun b o e => by
  unfold mkE
  rw [upd_ne (ne_of_none e na), upd_ne (ne_of_none e nd)]
  exact e
theorem _root_.EV.ErrAt.same {H H' : Hp} {a C d : Addr} {fs : List (Str × V)} (r : ErrAt H a C d fs) (k : Same H H') : ErrAt H' a C d fs := ⟨k _ _ r.ob, k _ _ r.dc⟩
theorem _root_.EV.IsErr.same {H H' : Hp} {a C : Addr} (r : IsErr H a C) (k : Same H H') : IsErr H' a C := by
  rcases r with ⟨d, fs, r⟩ | r
  · exact .inl ⟨d, fs, r.same k⟩
  · exact .inr (k _ _ r)
theorem mk1_eq {H : Hp} {a d C : Addr} {fs : List (Str × V)} {o : HO} (h : d ≠ a) : upd (upd (upd H a o) d (exd d fs)) a (exo a C (some d)) = mkE H a d C fs := by
  funext b
  unfold mkE
  by_cases e : b = a
  · rw [e, upd_same, upd_same]
  · rw [upd_ne e, upd_ne e]
    by_cases e2 : b = d
    · rw [e2, upd_same, upd_same]
    · rw [upd_ne e2, upd_ne e2, upd_ne e]
theorem mk2_eq {H : Hp} {a d C : Addr} {fs gs : List (Str × V)} {o : HO} (h : d ≠ a) : upd (upd (upd (upd H a o) d (exd d fs)) a (exo a C (some d))) d (exd d gs) = mkE H a d C gs := by
  funext b
  unfold mkE
  by_cases e2 : b = d
  · rw [e2, upd_same, upd_ne h, upd_same]
  · rw [upd_ne e2]
    by_cases e : b = a
    · rw [e, upd_same, upd_same]
    · rw [upd_ne e, upd_ne e, upd_ne e2, upd_ne e2, upd_ne e]
def spE1 (C : Addr) (f : Str) : Sp := fun vs H Q _ => ∃ (a : Addr) (v : V), vs = [.ref a, v] ∧ H a = some (exo a C none) ∧
  ∀ d, H d = none → d ≠ a → Q .non (upd (upd H d (exd d [(f, v)])) a (exo a C (some d)))
def spE2 (C : Addr) (f g : Str) : Sp := fun vs H Q _ => ∃ (a : Addr) (v w : V), vs = [.ref a, v, w] ∧ H a = some (exo a C none) ∧
  ∀ d, H d = none → d ≠ a → Q .non (upd (upd (upd H d (exd d [(f, v)])) a (exo a C (some d))) d (exd d [(g, w), (f, v)]))
/-- the body `self.f = f` -/
structure Body1 (st : Stmt) (f : Str) : Prop where
  bd : ∃ q1 q2 q3 q4, defBody st = [.Assign [.Attribute (.Name "self" q1) f q2] (.Name f q3) q4]
  sc : defScope st = { kind := .function, names := [("self", .local), (f, .local)], isGenerator := false, isCoroutine := false, more := [] }
  kb : ∀ (qual : Str) (kV doc pm : Value) (an : Option Addr) (cdv ct a v : Value), bindArgs (PySem.W.fnOf "__init__" qual (defArgs st) (defBody st) (defScope st) .none kV doc pm an cdv ct) ⟨[a], [(f, v)]⟩ = pure [(("self" : Str), a), (f, v)]
  pb : ∀ (qual : Str) (kV doc pm : Value) (an : Option Addr) (cdv ct a v : Value), bindArgs (PySem.W.fnOf "__init__" qual (defArgs st) (defBody st) (defScope st) .none kV doc pm an cdv ct) ⟨[a, v], []⟩ = pure [(("self" : Str), a), (f, v)]
  ne : f ≠ "self"
  n1 : (f == ("__debug__" : Str)) = false
  n2 : (f == ("__classdict__" : Str)) = false
section
variable {P : Program} {w : World} {K : PySem.W.Frag} {mg : Str → Option Value} {base : Heap} {fI : Addr} {fd : FuncData} {C : Addr} {f g qual : Str} {st : Stmt}
theorem sc1 (B : Body1 st f) : FnScope ["self", f] ["self", f] (defScope st) := by
  rw [B.sc]
  refine ⟨rfl, rfl, rfl, ?_, rfl, ?_, by simp⟩
  · simp [B.ne.symm]
  · intro x hx
    rcases List.mem_cons.mp hx with rfl | hx
    · exact .inl rfl
    · rcases List.mem_cons.mp hx with rfl | hx
      · refine .inl ?_
        show List.lookup x [(("self" : Str), NameKind.local), (x, NameKind.local)] = _
        have e : (x == ("self" : Str)) = false := by simpa using B.ne
        simp [List.lookup, e]
      · cases hx
theorem vis1 (B : Body1 st f) : Vis (defScope st) f := by
  have := (sc1 B).par f (by simp)
  rcases this with h | h
  · exact .inl h
  · exact .inr (.inl h)
theorem vis0 (B : Body1 st f) : Vis (defScope st) "self" := by
  rw [B.sc]
  exact .inl rfl
theorem ok_init1 (F : FunD K "__init__" qual (defArgs st) (defBody st) (defScope st) [] [] fI fd) (B : Body1 st f) (T : OexC K C) (no : PySem.W.findIn K (.ref C) f = some none) :
    FnOk P w K mg base CX0 1 fI fd ["self", f] (spE1 C f) := by
  refine F.ok (sc1 B) (fun vs H Q E h => ?_) (fun cdv A outer s H vs Q E hr h => ?_)
  · obtain ⟨a, v, rfl, _⟩ := h
    rfl
  · obtain ⟨a, v, rfl, ha, k⟩ := h
    obtain ⟨q1, q2, q3, q4, eb⟩ := B.bd
    rw [eb]
    refine ⟨_, PSs.nox (pss_one (ps_ost (pe_var (i := 0) rfl (vis0 B)) (pe_var (i := 1) rfl (vis1 B) B.n1 B.n2))), ?_⟩
    exact ⟨v, rfl, _, rfl, a, C, rfl, T, no, .inl ⟨ha, fun d hd ne => k d hd ne⟩⟩
/-- how a call binds -/
theorem kw1 (F : FunD K "__init__" qual (defArgs st) (defBody st) (defScope st) [] [] fI fd) (B : Body1 st f) (s : Shared) (a v : Value) : BindsTo s fd ⟨[a], [(f, v)]⟩ [(("self" : Str), a), (f, v)] := by
  obtain ⟨oc, od, dV, kV, doc, pm, an, cdv, ct, osl, rfl, lk, hcd, hD, hK⟩ := F.ex
  rcases hD with ⟨_, rfl⟩ | ⟨e, _⟩
  · exact .of_eq (B.kb _ _ _ _ _ _ _ _ _)
  · exact absurd rfl e
theorem pos1 (F : FunD K "__init__" qual (defArgs st) (defBody st) (defScope st) [] [] fI fd) (B : Body1 st f) : Binds K fd ["self", f] [] :=
  F.bindsN fun _ _ _ _ _ _ us hl => match us, hl with | [_, _], _ => B.pb _ _ _ _ _ _ _ _ _
end
/-- what is known of such a class x with the field f -/
structure Cl1 (P : Program) (w : World) (K : PySem.W.Frag) (mg : Str → Option Value) (base : Heap) (x f : Str) (bs : List Str) : Prop where
  e : ErrK K x bs
  mkr : ∃ (fI : Addr) (fd : FuncData), PySem.W.findIn K (.ref (ga K x)) "__init__" = some (some (.ref fI)) ∧ PySem.W.typeIn K (.ref fI) = some (.type "function") ∧
    FnOk P w K mg base CX0 1 fI fd ["self", f] (spE1 (ga K x) f) ∧ Binds K fd ["self", f] [] ∧ ∀ (s : Shared) (a v : Value), BindsTo s fd ⟨[a], [(f, v)]⟩ [(("self" : Str), a), (f, v)]
  no : PySem.W.findIn K (.ref (ga K x)) f = some none
  gl : mg x = some (.ref (ga K x))
/-- x(e) | x(f = e): a new error -/
def tE1 (C : Addr) (f : Str) (te : TE) : TE := fun σ H Q => te σ H fun v H1 => ∀ a d, H1 a = none → H1 d = none → d ≠ a → Q (.ref a) (mkE H1 a d C [(f, v)])
def wE1 (C : Addr) (f : Str) (Q : VK) : List V → Hp → Prop := fun vs H1 => match vs with
  | [v] => ∀ a d, H1 a = none → H1 d = none → d ≠ a → Q (.ref a) (mkE H1 a d C [(f, v)])
  | _ => False
theorem wE1_of {C : Addr} {f : Str} {Q : VK} : ∀ {vs : List V} {H1 : Hp}, wE1 C f Q vs H1 → ∃ v, vs = [v] ∧ ∀ a d, H1 a = none → H1 d = none → d ≠ a → Q (.ref a) (mkE H1 a d C [(f, v)])
  | [v], _, h => ⟨v, rfl, h⟩
  | [], _, h => h.elim
  | _ :: _ :: _, _, h => h.elim
section
variable {X : Cx} {x f : Str} {bs : List Str} {e : Expr} {te : TE} {p pos kpos : Pos} {k : Nat}
theorem tE1_to {C : Addr} {f : Str} {H1 : Hp} {v : V} {Q : VK} (q : ∀ a d, H1 a = none → H1 d = none → d ≠ a → Q (.ref a) (mkE H1 a d C [(f, v)])) (a : Addr) (ha : H1 a = none) :
    spE1 C f [.ref a, v] (upd H1 a (exo a C none)) (fun u H2 => u = .non ∧ Q (.ref a) H2) E0 := by
  refine ⟨a, v, rfl, upd_same, fun d hd ne => ⟨rfl, ?_⟩⟩
  rw [upd_ne ne] at hd
  rw [mk1_eq ne]
  exact q a d ha hd ne
theorem pe_e1 (T : Cl1 X.prog X.w X.K X.mg X.base x f bs) (hr : Room 2 X.A) (hc : Passes CX0 X E0) (hg : Gl X x) (he : PE X e te)
    (hdb : (x == ("__debug__" : Str)) = false := by decide) (hs : starEach [e] X.env = (false, eval e X.env) :: starEach [] X.env := by rfl)
    (hpl : (backTo pos (starEach [] X.env)).any (·.1) = false := by rfl) : PE X (.Call (.Name x p) [e] [] pos) (tE1 (ga X.K x) f te) := by
  obtain ⟨fI, fd, iC, tI, F1, b1, _⟩ := T.mkr
  refine ⟨fun pins s σ H Q I h => ?_⟩
  refine wpAny_Call_Name_kw (ld_glob I hg T.gl ?_ hdb)
  refine PySem.W.callWith_K (h₀ := X.base) I.ok.mod.kin T.e.ox.kC (thn ((pa_cons he pa_nil (hs := hs)).run pos pins s σ H (wE1 (ga X.K x) f Q) I h) fun us s1 ⟨vs, H1, I1, r1, q1⟩ => ⟨I1.kIn, ?_⟩) hs hpl
  obtain ⟨v, rfl, q⟩ := wE1_of q1
  show wpAny _ _ (call (.ref (ga X.K x)) us) _ _ _
  refine run_err T.e.ox iC tI F1 hr (fun s' a X' => ?_) hc I1 r1 ?_ (fun a ha => tE1_to q a ha)
  · have hl : us.length = 1 := r1.length.symm
    have z := b1 s' (.ref a :: us) X' (by rw [List.append_nil, List.length_cons, hl]; rfl)
    rw [List.append_nil] at z
    exact z
  · rw [← r1.length, sizeLine_eq]
    exact (by decide : 1 ≤ 16777216)
theorem pe_e1K (T : Cl1 X.prog X.w X.K X.mg X.base x f bs) (hr : Room 2 X.A) (hc : Passes CX0 X E0) (hg : Gl X x) (he : PE X e te)
    (hall : (backToKw pos (keywordEach [⟨some f, e, kpos⟩] X.env)).all (·.1.isSome) = true := by rfl)
    (hks : (backToKw pos (keywordEach [⟨some f, e, kpos⟩] X.env)).filterMap (·.1) = [f] := by rfl)
    (hdb : (x == ("__debug__" : Str)) = false := by decide)
    (hpl : ((backTo pos (starEach [] X.env)).any (·.1) || (backToKw pos (keywordEach [⟨some f, e, kpos⟩] X.env)).any (·.1.isNone)) = false := by rfl) :
    PE X (.Call (.Name x p) [] [⟨some f, e, kpos⟩] pos) (tE1 (ga X.K x) f te) := by
  obtain ⟨fI, fd, iC, tI, F1, b1, bk⟩ := T.mkr
  refine ⟨fun pins s σ H Q I h => ?_⟩
  refine wpAny_Call_Name_kw (ld_glob I hg T.gl ?_ hdb)
  refine PySem.W.callWith_KW0 (h₀ := X.base) I.ok.mod.kin T.e.ox.kC hall ?_ hpl
  refine thn ((pk_cons he pk_nil).run pos pins s σ H (wE1 (ga X.K x) f Q) I h) fun ws s2 ⟨zs, H2, I2, rz, q2⟩ => ⟨I2.kIn, ?_⟩
  rw [hks]
  obtain ⟨v, rfl, q⟩ := wE1_of q2
  refine run_err T.e.ox iC tI F1 hr (fun s' a X' => ?_) hc I2 rz (Nat.zero_le _) (fun a ha => tE1_to q a ha)
  cases rz with
  | cons r1 r2 =>
    cases r2
    exact bk s' _ _
end
/-! ### two fields -/
/-- the body `self.f = f; self.g = g` -/
structure Body2 (st : Stmt) (f g : Str) : Prop where
  bd : ∃ q1 q2 q3 q4 r1 r2 r3 r4, defBody st = [.Assign [.Attribute (.Name "self" q1) f q2] (.Name f q3) q4, .Assign [.Attribute (.Name "self" r1) g r2] (.Name g r3) r4]
  sc : FnScope ["self", f, g] ["self", f, g] (defScope st)
  v0 : Vis (defScope st) "self"
  v1 : Vis (defScope st) f
  v2 : Vis (defScope st) g
  kb : ∀ (qual : Str) (kV doc pm : Value) (an : Option Addr) (cdv ct a v w : Value), bindArgs (PySem.W.fnOf "__init__" qual (defArgs st) (defBody st) (defScope st) .none kV doc pm an cdv ct) ⟨[a], [(g, w), (f, v)]⟩ = pure [(("self" : Str), a), (f, v), (g, w)]
  pb : ∀ (qual : Str) (kV doc pm : Value) (an : Option Addr) (cdv ct a v w : Value), bindArgs (PySem.W.fnOf "__init__" qual (defArgs st) (defBody st) (defScope st) .none kV doc pm an cdv ct) ⟨[a, v, w], []⟩ = pure [(("self" : Str), a), (f, v), (g, w)]
  n1 : (f == ("__debug__" : Str)) = false
  n2 : (f == ("__classdict__" : Str)) = false
  n3 : (g == ("__debug__" : Str)) = false
  n4 : (g == ("__classdict__" : Str)) = false
section
variable {P : Program} {w : World} {K : PySem.W.Frag} {mg : Str → Option Value} {base : Heap} {fI : Addr} {fd : FuncData} {C : Addr} {f g qual : Str} {st : Stmt}
theorem ok_init2 (F : FunD K "__init__" qual (defArgs st) (defBody st) (defScope st) [] [] fI fd) (B : Body2 st f g) (T : OexC K C) (no : PySem.W.findIn K (.ref C) f = some none) (no2 : PySem.W.findIn K (.ref C) g = some none) :
    FnOk P w K mg base CX0 1 fI fd ["self", f, g] (spE2 C f g) := by
  refine F.ok B.sc (fun vs H Q E h => ?_) (fun cdv A outer s H vs Q E hr h => ?_)
  · obtain ⟨a, v, u, rfl, _⟩ := h
    rfl
  · obtain ⟨a, v, u, rfl, ha, k⟩ := h
    obtain ⟨q1, q2, q3, q4, r1, r2, r3, r4, eb⟩ := B.bd
    rw [eb]
    refine ⟨_, PSs.nox (pss_cons (ps_ost (pe_var (i := 0) rfl B.v0) (pe_var (i := 1) rfl B.v1 B.n1 B.n2)) (pss_one (ps_ost (pe_var (i := 0) rfl B.v0) (pe_var (i := 2) rfl B.v2 B.n3 B.n4)))), ?_⟩
    refine ⟨v, rfl, _, rfl, a, C, rfl, T, no, .inl ⟨ha, fun d hd ne => ?_⟩⟩
    exact ⟨u, rfl, _, rfl, a, C, rfl, T, no2, .inr ⟨d, _, upd_same, by rw [upd_ne ne, upd_same], (by show 1 ≤ 900; decide), k d hd ne⟩⟩
theorem kw2 (F : FunD K "__init__" qual (defArgs st) (defBody st) (defScope st) [] [] fI fd) (B : Body2 st f g) (s : Shared) (a v u : Value) : BindsTo s fd ⟨[a], [(g, u), (f, v)]⟩ [(("self" : Str), a), (f, v), (g, u)] := by
  obtain ⟨oc, od, dV, kV, doc, pm, an, cdv, ct, osl, rfl, lk, hcd, hD, hK⟩ := F.ex
  rcases hD with ⟨_, rfl⟩ | ⟨e, _⟩
  · exact .of_eq (B.kb _ _ _ _ _ _ _ _ _ _)
  · exact absurd rfl e
theorem pos2 (F : FunD K "__init__" qual (defArgs st) (defBody st) (defScope st) [] [] fI fd) (B : Body2 st f g) : Binds K fd ["self", f, g] [] :=
  F.bindsN fun _ _ _ _ _ _ us hl => match us, hl with | [_, _, _], _ => B.pb _ _ _ _ _ _ _ _ _ _
end
structure Cl2 (P : Program) (w : World) (K : PySem.W.Frag) (mg : Str → Option Value) (base : Heap) (x f g : Str) (bs : List Str) : Prop where
  e : ErrK K x bs
  mkr : ∃ (fI : Addr) (fd : FuncData), PySem.W.findIn K (.ref (ga K x)) "__init__" = some (some (.ref fI)) ∧ PySem.W.typeIn K (.ref fI) = some (.type "function") ∧
    FnOk P w K mg base CX0 1 fI fd ["self", f, g] (spE2 (ga K x) f g) ∧ Binds K fd ["self", f, g] [] ∧ ∀ (s : Shared) (a v u : Value), BindsTo s fd ⟨[a], [(g, u), (f, v)]⟩ [(("self" : Str), a), (f, v), (g, u)]
  no : PySem.W.findIn K (.ref (ga K x)) f = some none
  no2 : PySem.W.findIn K (.ref (ga K x)) g = some none
  gl : mg x = some (.ref (ga K x))
def wE2 (C : Addr) (f g : Str) (Q : VK) : List V → Hp → Prop := fun vs H1 => match vs with
  | [v, u] => ∀ a d, H1 a = none → H1 d = none → d ≠ a → Q (.ref a) (mkE H1 a d C [(g, u), (f, v)])
  | _ => False
theorem wE2_of {C : Addr} {f g : Str} {Q : VK} : ∀ {vs : List V} {H1 : Hp}, wE2 C f g Q vs H1 → ∃ v u, vs = [v, u] ∧ ∀ a d, H1 a = none → H1 d = none → d ≠ a → Q (.ref a) (mkE H1 a d C [(g, u), (f, v)])
  | [v, u], _, h => ⟨v, u, rfl, h⟩
  | [], _, h => h.elim
  | [_], _, h => h.elim
  | _ :: _ :: _ :: _, _, h => h.elim
section
variable {X : Cx} {x f g : Str} {bs : List Str} {e e2 : Expr} {te te2 : TE} {p pos kpos kpos2 : Pos} {k : Nat}
theorem tE2_to {C : Addr} {f g : Str} {H1 : Hp} {v u : V} {Q : VK} (q : ∀ a d, H1 a = none → H1 d = none → d ≠ a → Q (.ref a) (mkE H1 a d C [(g, u), (f, v)])) (a : Addr) (ha : H1 a = none) :
    spE2 C f g [.ref a, v, u] (upd H1 a (exo a C none)) (fun z H2 => z = .non ∧ Q (.ref a) H2) E0 := by
  refine ⟨a, v, u, rfl, upd_same, fun d hd ne => ⟨rfl, ?_⟩⟩
  rw [upd_ne ne] at hd
  rw [mk2_eq ne]
  exact q a d ha hd ne
/-- x(e, e2) -/
theorem pe_e2 (T : Cl2 X.prog X.w X.K X.mg X.base x f g bs) (hr : Room 2 X.A) (hc : Passes CX0 X E0) (hg : Gl X x) (he : PE X e te) (he2 : PE X e2 te2)
    (hdb : (x == ("__debug__" : Str)) = false := by decide) (hs : starEach [e, e2] X.env = (false, eval e X.env) :: starEach [e2] X.env := by rfl) (hs2 : starEach [e2] X.env = (false, eval e2 X.env) :: starEach [] X.env := by rfl)
    (hpl : (backTo pos (starEach [e2] X.env)).any (·.1) = false := by rfl) :
    PE X (.Call (.Name x p) [e, e2] [] pos) (fun σ H Q => te σ H fun v H1 => te2 σ H1 fun u H2 => wE2 (ga X.K x) f g Q [v, u] H2) := by
  obtain ⟨fI, fd, iC, tI, F1, b1, _⟩ := T.mkr
  refine ⟨fun pins s σ H Q I h => ?_⟩
  refine wpAny_Call_Name_kw (ld_glob I hg T.gl ?_ hdb)
  refine PySem.W.callWith_K (h₀ := X.base) I.ok.mod.kin T.e.ox.kC (thn ((pa_cons he (pa_cons he2 pa_nil (hs := hs2)) (hs := hs)).run pos pins s σ H (wE2 (ga X.K x) f g Q) I h) fun us s1 ⟨vs, H1, I1, r1, q1⟩ => ⟨I1.kIn, ?_⟩) hs hpl
  obtain ⟨v, u, rfl, q⟩ := wE2_of q1
  show wpAny _ _ (call (.ref (ga X.K x)) us) _ _ _
  refine run_err T.e.ox iC tI F1 hr (fun s' a X' => ?_) hc I1 r1 ?_ (fun a ha => tE2_to q a ha)
  · have hl : us.length = 2 := r1.length.symm
    have z := b1 s' (.ref a :: us) X' (by rw [List.append_nil, List.length_cons, hl]; rfl)
    rw [List.append_nil] at z
    exact z
  · rw [← r1.length, sizeLine_eq]
    exact (by decide : 2 ≤ 16777216)
/-- x(g = e, f = e2) -/
theorem pe_e2K (T : Cl2 X.prog X.w X.K X.mg X.base x f g bs) (hr : Room 2 X.A) (hc : Passes CX0 X E0) (hg : Gl X x) (he : PE X e te) (he2 : PE X e2 te2)
    (hall : (backToKw pos (keywordEach [⟨some g, e, kpos⟩, ⟨some f, e2, kpos2⟩] X.env)).all (·.1.isSome) = true := by rfl)
    (hks : (backToKw pos (keywordEach [⟨some g, e, kpos⟩, ⟨some f, e2, kpos2⟩] X.env)).filterMap (·.1) = [g, f] := by rfl)
    (hdb : (x == ("__debug__" : Str)) = false := by decide)
    (hpl : ((backTo pos (starEach [] X.env)).any (·.1) || (backToKw pos (keywordEach [⟨some g, e, kpos⟩, ⟨some f, e2, kpos2⟩] X.env)).any (·.1.isNone)) = false := by rfl) :
    PE X (.Call (.Name x p) [] [⟨some g, e, kpos⟩, ⟨some f, e2, kpos2⟩] pos) (fun σ H Q => te σ H fun u H1 => te2 σ H1 fun v H2 => wE2 (ga X.K x) f g Q [v, u] H2) := by
  obtain ⟨fI, fd, iC, tI, F1, b1, bk⟩ := T.mkr
  refine ⟨fun pins s σ H Q I h => ?_⟩
  refine wpAny_Call_Name_kw (ld_glob I hg T.gl ?_ hdb)
  refine PySem.W.callWith_KW0 (h₀ := X.base) I.ok.mod.kin T.e.ox.kC hall ?_ hpl
  refine thn ((pk_cons he (pk_cons he2 pk_nil)).run pos pins s σ H (fun zs H2 => match zs with
    | [u, v] => wE2 (ga X.K x) f g Q [v, u] H2
    | _ => False) I h) fun ws s2 ⟨zs, H2, I2, rz, q2⟩ => ⟨I2.kIn, ?_⟩
  rw [hks]
  cases rz with
  | nil => exact q2.elim
  | cons r1 rz => cases rz with
    | nil => exact q2.elim
    | cons r2 rz => cases rz with
      | cons r3 rz => exact q2.elim
      | nil =>
        obtain ⟨v, u, e, q⟩ := wE2_of q2
        cases e
        exact run_err T.e.ox iC tI F1 hr (fun s' a X' => bk s' _ _ _) hc I2 (.cons r2 (.cons r1 .nil)) (Nat.zero_le _) (fun a ha => tE2_to q a ha)
end
end EI

/-! text K2Facts -/
set_option Elab.async false
set_option linter.all false
set_option maxRecDepth 100000
set_option maxHeartbeats 4000000
/-! The facts of the row's head: classes, errors, defs, the tables of the two defs that make lambdas. -/
namespace K2
open PySem PySem.Spec PyProof.Rows L2 He EF
abbrev R : PySem.W.OpenRow := PySem.W.OpenLaw.row PySem.Challenge.rw_editionlines_k02_words_taken_one_by_one
def bT : List Str := ["BadInput", "EditionError"]
def errsN : List (Str × List Str) := [("BadText", bT), ("BadInput", ["EditionError"]), ("EditionError", [])]
def freesN : List Str := ["int", "len", "abs", "list", "repr", "range", "isinstance", "ValueError", "KeyError", "LookupError", "bool", "str", "all", "max", "tuple", "iter"]
def topsN : List (Str × Nat) := [("is_integer", 2), ("is_within", 3), ("is_fix", 4), ("number_of", 10), ("is_plain_number", 11), ("_law_pen", 14), ("_law_draw", 15), ("_law_pick", 16), ("_law_texts", 17), ("_law_number", 18), ("_law_is_fix", 19),
  ("_law_heard", 20), ("_law_is_short", 21), ("_law_lost", 22), ("_law_lost_right", 23), ("_law_checks_right", 24), ("_law_called", 25), ("_law_right", 26), ("law", 27)]
def methN : List (Str × Nat) := [("__len__", 2), ("__iter__", 3), ("__bool__", 4), ("is_next", 5), ("take", 6), ("take_fix", 7), ("take_number", 8), ("take_by", 9), ("step", 10), ("refuse", 11), ("end", 13)]
/-- a method's statement -/
abbrev wSt (j : Nat) : Stmt := inClass (top 12) j
def dTop (q : Str × Nat) : DefD := ⟨(q.1, none), q.1, q.1, defArgs (top q.2), defBody (top q.2), defScope (top q.2), [], []⟩
def dMeth (q : Str × Nat) : DefD := ⟨("Words", some q.1), q.1, "Words." ++ q.1, defArgs (wSt q.2), defBody (wSt q.2), defScope (wSt q.2), [], []⟩
def dInitW : DefD := ⟨("Words", some "__init__"), "__init__", "Words.__init__", defArgs (wSt 0), defBody (wSt 0), defScope (wSt 0), [.int 0], []⟩
def dInitE : DefD := ⟨("BadText", some "__init__"), "__init__", "BadText.__init__", defArgs (inClass (top 8) 0), defBody (inClass (top 8) 0), defScope (inClass (top 8) 0), [], []⟩
def fns : List DefD := (topsN.map dTop) ++ (methN.map dMeth) ++ [dInitW, dInitE]
def fas : List Fa := (freesN.map Fa.free) ++ (topsN.map fun q => Fa.glo q.1) ++ (methN.map fun q => Fa.meth "Words" q.1) ++ [.glo "Words", .cls "Words", .mkr "Words", .noat "Words" "parts", .noat "Words" "line", .noat "Words" "taken"]
def tabN : List Defn := [("_law_called", none), ("law", none)]
def iniE (K : PySem.W.Frag) : Bool := eqO (PySem.W.findIn K (.ref (ga K "BadText")) "__init__") (some (some (.ref (ma K (ga K "BadText") "__init__")))) && (decide (PySem.W.typeIn K (.ref (ma K (ga K "BadText") "__init__")) = some (.type "function")) &&
  (["line", "word"] : List Str).all fun f => eqO (PySem.W.findIn K (.ref (ga K "BadText")) f) (some none))
/-- the getter of a property -/
def propAt (K : PySem.W.Frag) (C : Addr) (f : Str) : Addr := match PySem.W.findIn K (.ref C) f with
  | some (some (.ref p)) => p
  | _ => 0
def gtAt (K : PySem.W.Frag) (C : Addr) (f : Str) : Addr := match PySem.W.recIn K (propAt K C f) "property" with
  | some (.ref g :: _) => g
  | _ => 0
def propB (K : PySem.W.Frag) (C : Addr) (f : Str) : Bool := eqO (PySem.W.findIn K (.ref C) f) (some (some (.ref (propAt K C f)))) && (eqO (PySem.W.specialIn K (.ref (propAt K C f)) "__get__") (some (some (.builtin "property.__get__"))) &&
  (decide (PySem.W.takesIn K (.ref (propAt K C f)) = some true) && (match PySem.W.recIn K (propAt K C f) "property" with
    | some (.ref _ :: _) => true
    | _ => false)))
theorem propB_ok {K : PySem.W.Frag} {C : Addr} {f : Str} (h : propB K C f = true) : PropOf K C f (propAt K C f) (gtAt K C f) := by
  obtain ⟨h1, h⟩ := ba h
  obtain ⟨h2, h⟩ := ba h
  obtain ⟨h3, h4⟩ := ba h
  refine ⟨eqO_ok h1, eqO_ok h2, of_decide_eq_true h3, ?_⟩
  unfold gtAt
  split at h4
  · rename_i g rest e
    rw [e]
    exact ⟨rest, rfl⟩
  · cases h4
def exmB (K : PySem.W.Frag) (c : Value) (b : Bool) : Bool := decide (PySem.W.exmOne K (.ref (ga K "BadText")) c = some b)
def bmB (K : PySem.W.Frag) (g : Addr) : Bool := eqO (PySem.W.specialIn K (.ref g) "__get__") (some (some (.builtin "function.__get__"))) && (decide (PySem.W.takesIn K (.ref g) = some false) && PySem.W.fnIn K g)
def ckX (K : PySem.W.Frag) : Bool := decide ((cT K ("_law_called", none)).2 ≠ (cT K ("law", none)).2) && bmB K (ma K (ga K "Words") "is_next") && objB K && (errsN.all fun q => errB K q.1 q.2) && iniE K && propB K (ga K "Words") "spot" && exmB K (.ref (ga K "EditionError")) true && exmB K (.ref (ga K "BadText")) true && exmB K (.type "KeyError") false
/-! ### the Hook: HeadHook4's, and the getter -/
def fnA (K : PySem.W.Frag) (a : Addr) : FnW := match K.lookup a with
  | some ⟨_, _, .func fd, _⟩ => some (fd.name, fd.qualname, fd.params, fd.body, fd.scope, fd.globals, fd.closure, fd.builtins)
  | _ => none
def okA (K : PySem.W.Frag) (a : Addr) (q : Str) : Bool := PySem.W.keepIn K (.ref a) && (match K.lookup a with
  | some ⟨_, _, .func fd, _⟩ => PySem.W.codeIn K fd.code q && (dflB K fd.defaults [] && kwdB K fd.kwdefaults [])
  | _ => false)
def valA (x q : Str) (st : Stmt) : FnW := some (x, q, defArgs st, .stmts (defBody st), defScope st, mainGlobals, [], builtinsNs)
theorem funA {K : PySem.W.Frag} {a : Addr} {x q : Str} {st : Stmt} (e : fnA K a = valA x q st) (c : okA K a q = true) : ∃ fd, FunD K x q (defArgs st) (defBody st) (defScope st) [] [] a fd := by
  obtain ⟨kp, c2⟩ := ba c
  unfold fnA at e
  split at c2
  · rename_i oc od fd osl lk
    rw [lk] at e
    obtain ⟨k1, k2⟩ := ba c2
    obtain ⟨k3, k4⟩ := ba k2
    obtain ⟨m1, m2, m3, m4, m5, m6, m7, m8, m9, m10, m11, m12, m13, m14, m15⟩ := fd
    have e2 : (some (m1, m2, m3, m4, m5, m6, m7, m15) : FnW) = some (x, q, defArgs st, .stmts (defBody st), defScope st, mainGlobals, [], builtinsNs) := e
    simp only [Option.some.injEq, Prod.mk.injEq] at e2
    obtain ⟨rfl, rfl, rfl, rfl, rfl, rfl, rfl, rfl⟩ := e2
    exact ⟨_, ⟨oc, od, m8, m9, m10, m11, m12, m13, m14, osl, rfl, lk, k1, dflB_ok k3, kwdB_ok k4⟩, kp⟩
  · cases c2
abbrev sSpot : Stmt := wSt 1
def exS (K : PySem.W.Frag) : Bool := ckX K && okA K (gtAt K (ga K "Words") "spot") "Words.spot"
def obsS (n : Nat) (g : Addr → Option Obj) : AlX × FnW := (He.obsX n fas fns [] tabN exS g, fnA (frT g (asD g n)) (gtAt (frT g (asD g n)) (ga (frT g (asD g n)) "Words") "spot"))
structure SaysS (w : World) (h : Heap) (K : PySem.W.Frag) : Prop where
  x : He.SaysX fas fns [] tabN exS w h K
  g : fnA K (gtAt K (ga K "Words") "spot") = valA "spot" "Words.spot" sSpot
def hookS (n : Nat) : PySem.W.Hook where
  α := AlX × FnW
  obs := fun s => obsS n s.heap.get?
  val := fun w => (He.valX fns [] w, valA "spot" "Words.spot" sSpot)
  says := fun w h => ∃ K : PySem.W.Frag, K.In h ∧ SaysS w h K
  of := fun _ _ e => ⟨_, frT_in, ⟨He.saysX_of (congrArg (fun z : AlX × FnW => z.1) e), congrArg (fun z : AlX × FnW => z.2) e⟩⟩
  keeps := fun _ _ _ ⟨K, hK, c⟩ k => ⟨K, PySem.W.Frag.In.keeps hK k, ⟨⟨c.x.t, c.x.more, c.x.hd, c.x.out, fun p hp => k _ _ (c.x.empty p hp)⟩, c.g⟩⟩
theorem obsS_eq {n : Nat} {g : Addr → Option Obj} {s : Shared} (h : ∀ a, g a = s.heap.get? a) : obsS n g = (hookS n).obs s := by
  rw [show g = s.heap.get? from funext h]
  rfl
end K2

/-! text K2Run -/
set_option Elab.async false
set_option linter.all false
set_option maxRecDepth 100000
set_option maxHeartbeats 0
namespace K2
open PySem PySem.Spec PyProof.Rows L2 He EF
abbrev hkS : PySem.W.Hook := hookS 6
def obT (s : PySem.W.SharedT) : AlX × FnW := obsS 6 (HandSHeadRun.getT s)
theorem obT_eq (s : PySem.W.SharedT) : obT s = hkS.obs s.abs := obsS_eq (HandSHeadRun.getT_eq s)
def loose : List Str := ["_wall", "is_integer", "is_within", "is_fix", "EditionError", "BadInput", "BadText", "number_of", "is_plain_number", "Words", "_law_pen", "_law_draw", "_law_pick", "_law_texts", "_law_number", "_law_is_fix",
  "_law_heard", "_law_is_short", "_law_lost", "_law_lost_right", "_law_checks_right", "_law_called", "_law_right"]
theorem runS (w : World) : HandSHeadRun.RunEq R (PySem.W.view R.prog [27]) hkS obT 9500 loose w := by
  intro os
  kernel_rfl
end K2

/-! text K2Hold -/
set_option Elab.async false
set_option linter.all false
set_option maxRecDepth 100000
set_option maxHeartbeats 1000000
/-! try: .. except X as e: v = e, and v asked behind the try: the caught error is tracked from the end of the suite on. -/
namespace Hd
open PySem PySem.Spec PyProof.Rows L2
/-- an error at a: its class, its dict -/
def ExF (C : Value) (d : Option Addr) (a : Addr) : HO := .ext fun h => ∃ (oe : Obj) (vs : Array Value), h.get? a = some oe ∧ Zc C d oe ∧ oe.data = .fields vs
theorem exF_ok {P : Program} {w : World} {H : Hp} {h : Heap} {C : Value} {d : Option Addr} {a : Addr} {oe : Obj} {vs : Array Value} (e : h.get? a = some oe) (z : Zc C d oe) (hd : oe.data = .fields vs) : ObjOk P w H h a (ExF C d a) :=
  ⟨⟨oe, vs, e, z, hd⟩, ⟨oe, e⟩, fun _ _ ⟨o, us, b1, b2, b3⟩ k => ⟨o, us, k _ b1, b2, b3⟩⟩
theorem exF_at {P : Program} {w : World} {H : Hp} {h : Heap} {C : Value} {d : Option Addr} {a : Addr} (ok : HOk P w H h) (e : H a = some (ExF C d a)) : ∃ (oe : Obj) (vs : Array Value), h.get? a = some oe ∧ Zc C d oe ∧ oe.data = .fields vs := by
  have z : ObjOk P w H h a (ExF C d a) := ok a _ e
  exact z.1
section
variable {X : Cx} {pins : List (Addr × Obj)} {σ : L2.St} {H : Hp} {s : Shared} {a : Addr} {oe : Obj} {vs : Array Value} {C : Value} {d : Option Addr}
/-- a pinned error becomes a tracked one -/
theorem track (I : Inv X ((a, oe) :: pins) σ H s) (z : Zc C d oe) (hd : oe.data = .fields vs) (n0 : X.s_0.heap.get? a = none) (np : ∀ p ∈ X.pn ++ pins, p.1 ≠ a) : Inv X pins σ (upd H a (ExF C d a)) s := by
  obtain ⟨ha, na, nL, nF, nc⟩ := I.pin (a, oe) (List.mem_append_right _ List.mem_cons_self)
  have ha : s.heap.get? a = some oe := ha
  have na : H a = none := na
  have other : ∀ {b : Addr} {u : HO}, H b = some u → upd H a (ExF C d a) b = some u := fun {b u} e => by
    rw [upd_ne (fun q => by rw [q, na] at e; cases e)]
    exact e
  have old : ∀ {b : Addr} {o : Obj}, X.s_0.heap.get? b = some o → upd H a (ExF C d a) b = H b := fun {b o} e => upd_ne fun q => by
    rw [q, n0] at e
    cases e
  refine ⟨I.ok, I.os, I.bare, ⟨I.base.keep, I.base.slot, fun b o e n hx => ?_, I.base.there, fun b xs e => ?_, fun b o u e => ?_, fun b ps e => ?_⟩, I.loc, I.cell, ?_, fun x c e => ?_, fun p hp => ?_, fun b u e => ?_, I.len⟩
  · rw [old e]
    exact I.base.free b o e n hx
  · exact other (I.base.tups b xs e)
  · exact other (I.base.frzs b o u e)
  · obtain ⟨more, q⟩ := I.base.tbls b ps e
    exact ⟨more, other q⟩
  · rw [upd_ne (Ne.symm nL)]
    exact I.free
  · rw [upd_ne]
    · exact I.freeC x c e
    · intro q
      obtain ⟨v, o, ho, hv⟩ := I.cell x c e
      rw [q, ha] at ho
      cases ho
      exact nc v hv
  · have hp2 : p ∈ X.pn ++ ((a, oe) :: pins) := (List.mem_append.mp hp).elim (fun q => List.mem_append_left _ q) fun q => List.mem_append_right _ (List.mem_cons_of_mem _ q)
    obtain ⟨p1, p2, p3⟩ := I.pin p hp2
    exact ⟨p1, by rw [upd_ne (np p hp)]; exact p2, p3⟩
  · by_cases q : b = a
    · rw [q, upd_same] at e
      cases e
      rw [q]
      exact exF_ok ha z hd
    · rw [upd_ne q] at e
      exact (I.hok b u e).stay (fun _ _ _ r => r) (fun _ r => other r) fun _ _ r => other r
end
/-- what the clause wishes: behind its suite the error is tracked -/
def wHold (K : PySem.W.Frag) (c : Value) (i : Nat) (ts : Addr → Value → Option Addr → TS) (Wout : WX) (D : Ends) : WX := fun cls d σ H =>
  ∃ b, PySem.W.exmOne K cls c = some b ∧ (b = false → Wout cls d σ H) ∧
    (b = true → ∀ a, H a = none → ts a cls d { nx := fun σ6 H6 => D.nx (σ6.set i none) (upd H6 a (ExF cls d a)), rt := D.rt } (σ.set i (some (.ref a))) H)
section
variable {X : Cx} {x n : Str} {c : Value} {i : Nat} {body suite : List Stmt} {b₀ : Stmt} {np pos pos' : Pos} {tb : WX → TS} {ts : Addr → Value → Option Addr → TS} {Wout : WX}
theorem ps_try_hold (hs : X.stack = X.env :: X.outer) (hf : X.env.frame = some X.env.locals) (hN : X.N.Nodup) (hi : X.N[i]? = some n) (hln : X.env.kindOf n = some .local) (hc : Names X x c) (hex : X.ex = []) (tk : Takes X Wout)
    (hb : ∀ (W : WX) (pn : List (Addr × Obj)) (xe : Value → Shared → Prop), Takes (X.tr pn xe) W → PassesOwn (model X.prog X.w) X.A X.env xe → PSs (X.tr pn xe) body (tb W))
    (hsu : ∀ (a : Addr) (oe : Obj) (cls : Value) (d : Option Addr) (pn : List (Addr × Obj)), Zc cls d oe → (∃ vs, oe.data = .fields vs) → PSs (X.suite a ((a, oe) :: pn)) (b₀ :: suite) (ts a cls d)) :
    PS X (.Try body [.ExceptHandler (some (.Name x np)) (some n) (b₀ :: suite) pos'] [] [] pos) (fun D σ H => tb (wHold X.K c i ts Wout D) D σ H) := by
  constructor
  intro pins s σ H D I h
  have ok := I.ok
  have fr : X.A.frames = some (X.env :: X.outer) := ok.frames.trans (congrArg some hs)
  refine wpAny_Try_except (wpAny_mono ((hb _ (X.pn ++ pins) _ ?takes PassesOwn.looking).run [] s σ H D (I.toTry _) h) (fun fl t ht => ?_) fun _ _ z => z)
  case takes =>
    intro u t out
    obtain ⟨a, B, t0, ps0, σ0, H0, cls, d, rfl, J, nb, up, sky, na, os, ag, b, hb1, hno, hyes⟩ := out
    have J0 : Inv X pins σ0 H0 t0 := J.ofTry ok
    rw [hs] at sky
    have skyB : B.get? a = none := by
      rcases sky with q | q | q
      · exact q.2.1
      · exact q.2.1
      · exact q.2.1
    refine Sky.land Zc.steady fr hf sky fun g1 fl1 up1 => ?_
    have L1 : Inv X pins σ0 H0 { t with heap := g1 } := J0.landed nb fl1.1 (up.trans up1) os ag
    obtain ⟨o1, us1, e1, z1, d1⟩ := fl1.there
    have offStack : a ∉ frs (X.env :: X.outer) := fun hm => by
      obtain ⟨_, o', e', hnf⟩ := fl1.2.2.1.mem hm
      rw [e1] at e'
      cases e'
      exact hnf _ d1
    have offL : a ≠ X.env.locals := fun q => offStack (List.mem_filterMap.mpr ⟨X.env, List.mem_cons_self, hf.trans (congrArg some q.symm)⟩)
    have offF : a ∉ X.fs := fun hm => let ⟨e, he, q⟩ := List.mem_filterMap.mp hm; offStack (List.mem_filterMap.mpr ⟨e, List.mem_cons_of_mem _ he, q⟩)
    have fresh : t0.heap.get? a = none := by
      cases q : t0.heap.get? a with
      | none => rfl
      | some o =>
        have q2 := nb a o q (by rw [hs]; exact offStack)
        rw [skyB] at q2
        cases q2
    have fresh0 : X.s_0.heap.get? a = none := by
      cases q : X.s_0.heap.get? a with
      | none => rfl
      | some o =>
        by_cases hx : a ∈ X.ex
        · exact absurd hx (by rw [hex]; simp)
        · obtain ⟨o', q2⟩ := J0.base.there a o q hx
          rw [fresh] at q2
          cases q2
    have pinsOff : ∀ p ∈ X.pn ++ pins, p.1 ≠ a := fun p hp q => by
      have q2 := (J0.pin p hp).1
      rw [q, fresh] at q2
      cases q2
    have S1 := L1.suite e1 d1 na offL offF
    refine wpAny_handleBy_cons (codeAny_handlers_test ?_) (by intro q; cases q)
    have LT : PySem.W.Looks (model X.prog X.w) g1 (typeOf (.ref a)) cls := fun _ _ _ r k q => wpAny_typeOf_ref (k _ _ e1) (by rw [z1.1]; exact q)
    have LM := PySem.W.exm_one (M := model X.prog X.w) L1.kIn LT hb1
    have asks : ∀ {Q E : Value → Shared → Prop}, Q c { t with heap := g1 } → wpAny (model X.prog X.w) (X.A.mark (some (.ref a))) (eval (.Name x np) X.env) Q E { t with heap := g1 } := fun {Q E} q => by
      obtain ⟨hg, hdbg, hm | ⟨hm, hv, hnn⟩⟩ := hc
      · exact ld_glob (X := X.suite a ((a, o1) :: (X.pn ++ pins))) S1 hg hm q hdbg
      · exact ld_blt (X := X.suite a ((a, o1) :: (X.pn ++ pins))) S1 hg hm hv q hnn hdbg
    refine asks (LM.here ?_)
    cases b with
    | false =>
      refine wpAny_handleBy_nil ?_
      obtain ⟨_, _, _, o3, us3, T, _, _, e3, _, d3, i3, _⟩ := id fl1
      unfold PySem.passOn
      refine wpAny_bind (wpAny_field e3 d3 i3 ?_)
      rw [if_neg (fun q : (Value.ref T == Value.none) = true => nomatch q)]
      have away : wpAny (model X.prog X.w) X.A (setFlight (.ref a) X.env.frame) (fun _ r => wpAny (model X.prog X.w) X.A (throw (.ref a) : Sem Flow) (SP X pins D) X.xe r) X.xe { t with heap := g1 } := by
        rw [hf]
        refine HandSPX.setFlight_upZ fl1 fun g2 fl2 up2 => wpAny_throw (tk _ _ ?_)
        exact ⟨a, B, t0, pins, σ0, H0, cls, d, rfl, J0, nb, (up.trans up1).trans up2, .inr (.inr (by rw [hs]; exact fl2)), na, os, ag, hno rfl⟩
      first
        | exact wpAny_bind (wpAny_pure (wpAny_bind away))
        | exact wpAny_bind away
    | true =>
      refine codeAny_handlers_suite_as (HandSPX.lands_againZ fl1 fun g2 fl2 up2 => ?_)
      have L2' : Inv X pins σ0 H0 { t with heap := g2 } := J0.landed nb fl2.1 ((up.trans up1).trans up2) os ag
      obtain ⟨o2, us2, e2, z2, d2⟩ := fl2.there
      have S2 := L2'.suite e2 d2 na offL offF
      refine store_ok (X := X.suite a ((a, o2) :: (X.pn ++ pins))) (v := .ref a) S2 hN hi (.inl hln) rfl (fun t5 S5 => ?_) (.inr hln)
      refine wpAny_mono ((hsu a o2 cls d (X.pn ++ pins) z2 ⟨_, d2⟩).run [] t5 _ H0 _ S5 (hyes rfl a na)) (fun fl6 t6 h6 => ?_) (fun _ _ z => z.elim)
      have back : ∀ {σ6 : L2.St} {H6 : Hp}, Inv (X.suite a ((a, o2) :: (X.pn ++ pins))) [] σ6 H6 t6 → Inv X ((a, o2) :: pins) σ6 H6 t6 := fun S6 => by
        have U := S6.unsuite (pins := pins) ok
        exact ⟨U.ok, U.os, U.bare, U.base, U.loc, U.cell, U.free, U.freeC, fun p hp => S6.pin p (by
          rcases List.mem_append.mp hp with q | q
          · exact List.mem_append_left _ (List.mem_cons_of_mem _ (List.mem_append_left _ q))
          · rcases List.mem_cons.mp q with q | q
            · rw [q]
              exact List.mem_append_left _ List.mem_cons_self
            · exact List.mem_append_left _ (List.mem_cons_of_mem _ (List.mem_append_right _ q))), U.hok, U.len⟩
      cases fl6 with
      | next =>
        obtain ⟨σ6, H6, S6, q6⟩ := h6
        exact gone_ok (back S6) hN hi hln fun t7 J7 => ⟨_, _, track J7 z2 d2 fresh0 pinsOff, q6⟩
      | brk => obtain ⟨_, _, _, q6⟩ := h6; exact q6.elim
      | cont => obtain ⟨_, _, _, q6⟩ := h6; exact q6.elim
      | ret u =>
        obtain ⟨v6, σ6, H6, S6, r6, q6⟩ := h6
        exact gone_ok (S6.unsuite (pins := pins) ok) hN hi hln fun t7 J7 => ⟨v6, _, H6, J7, r6, q6⟩
  · cases fl with
    | next =>
      obtain ⟨σ1, H1, J1, q⟩ := ht
      exact wpAny_execs_nil ⟨σ1, H1, J1.ofTry ok, q⟩
    | brk =>
      obtain ⟨σ1, H1, J1, q⟩ := ht
      exact ⟨σ1, H1, J1.ofTry ok, q⟩
    | cont =>
      obtain ⟨σ1, H1, J1, q⟩ := ht
      exact ⟨σ1, H1, J1.ofTry ok, q⟩
    | ret u =>
      obtain ⟨v, σ1, H1, J1, r1, q⟩ := ht
      exact ⟨v, σ1, H1, J1.ofTry ok, r1, q⟩
end
end Hd

/-! text K2Own -/
set_option Elab.async false
set_option linter.all false
set_option maxRecDepth 100000
set_option maxHeartbeats 1000000
/-! len(o), bool(o), for x in o: o an instance of an own class that says so itself. -/
namespace Ow
open PySem PySem.Spec PyProof.Rows L2
section
variable {X : Cx} {CX : CXT} {k : Nat} {C f : Addr} {fd : FuncData} {ps : List Str} {sp : Sp} {E : XK}
/-- len(o) -/
def rLenO (C : Addr) (sp : Sp) (E : XK) : List V → Hp → VK → Prop := fun xs H Q => ∃ a dx fs, xs = [.ref a] ∧ H a = some (.ins C dx fs) ∧ sp [.ref a] H (fun v H' => ∃ n : Int, v = .int n ∧ 0 ≤ n ∧ n < 2 ^ 63 ∧ Q (.int n) H') E
theorem call_lenO (hs : PySem.W.findIn X.K (.ref C) "__len__" = some (some (.ref f))) (hf : PySem.W.isFn X.K (.ref f) = true) (F : FnOk X.prog X.w X.K X.mg X.base CX k f fd ps sp) (hr : Room (k + 1) X.A) (hb : Binds X.K fd ps []) (hx : Passes CX X E) :
    CallR X (.builtin "len") (rLenO C sp E) := by
  intro pins s σ H xs us Q I r h
  obtain ⟨a, dx, fs, rfl, ea, q⟩ := h
  obtain ⟨u, rfl, ru⟩ := vals1 r
  obtain rfl : u = Value.ref a := ru
  obtain ⟨mA, O, _⟩ := ins_get I.hok ea
  obtain ⟨od, J, _⟩ := O.look
  obtain ⟨m, hF⟩ := I.fr
  have hl := F.len _ _ _ _ q
  refine PySem.W.len_K hF I.ok.mod.kin J hs hf (wpAny_call (codeAny_mono (F.run X.A.in1 X.stack s H ⟨[.ref a], []⟩ [.ref a] [.ref a] _ E hr.in1 I.env0.in1 (by
    have := hb s [.ref a] I.kIn (by simpa using hl)
    simpa using this) (.cons rfl .nil) q) fun rs s' hq => ?_))
  cases rs with
  | error e => exact hx pins σ H s e s' I hq
  | ok fl =>
    cases fl with
    | ret u =>
      obtain ⟨v, H', I', rv, n, rfl, h0, h1, q'⟩ := I.after hq
      obtain ⟨t, rfl⟩ := rv
      exact ⟨⟨h0, h1⟩, .int n, H', I'.tok _, ⟨_, rfl⟩, q'⟩
    | next => exact False.elim hq
    | brk => exact False.elim hq
    | cont => exact False.elim hq
/-- truth of o -/
def rBoolO (C : Addr) (sp : Sp) (E : XK) : List V → Hp → VK → Prop := fun xs H Q => ∃ a dx fs, xs = [.ref a] ∧ H a = some (.ins C dx fs) ∧ sp [.ref a] H (fun v H' => ∃ b : Bool, v = .bl b ∧ Q (.bl b) H') E
theorem truthO {A : Around} (hs : PySem.W.findIn X.K (.ref C) "__bool__" = some (some (.ref f))) (hf : PySem.W.isFn X.K (.ref f) = true) (F : FnOk X.prog X.w X.K X.mg X.base CX k f fd ps sp) (hb : Binds X.K fd ps []) (hx : Passes CX X E)
    {pins : List (Addr × Obj)} {σ : L2.St} {H : Hp} {s : Shared} {a dx : Addr} {fs : List (Str × V)} {Q : Bool → Hp → Prop} (I : Inv X pins σ H s) (hr : Room k A) (e0 : Env0 X.prog X.w X.K X.mg X.base A X.stack s H) (ea : H a = some (.ins C dx fs))
    (q : sp [.ref a] H (fun v H' => ∃ b : Bool, v = .bl b ∧ Q b H') E) : wpAny (model X.prog X.w) A (truthy (.ref a)) (fun b s' => ∃ H', Inv X pins σ H' s' ∧ Q b H') X.xe s := by
  obtain ⟨mA, O, _⟩ := ins_get I.hok ea
  obtain ⟨od, J, _⟩ := O.look
  obtain ⟨m, hF⟩ := I.fr
  have hl := F.len _ _ _ _ q
  refine PySem.W.truthy_K hF I.ok.mod.kin J hs hf (wpAny_call (codeAny_mono (F.run A X.stack s H ⟨[.ref a], []⟩ [.ref a] [.ref a] _ E hr e0 (by
    have := hb s [.ref a] I.kIn (by simpa using hl)
    simpa using this) (.cons rfl .nil) q) fun rs s' hq => ?_))
  cases rs with
  | error e => exact hx pins σ H s e s' I hq
  | ok fl =>
    cases fl with
    | ret u =>
      obtain ⟨v, H', I', rv, b, rfl, q'⟩ := I.after hq
      obtain rfl : u = Value.bool b := rv
      exact ⟨H', I', q'⟩
    | next => exact False.elim hq
    | brk => exact False.elim hq
    | cont => exact False.elim hq
end
section
variable {prog : Program} {w : World} {a : Addr}
open PySem.Sem (wp)
theorem boolnew : MeetsIn prog w (Builtin.«bool.__new__» ⟨[.type "bool", .ref a], []⟩) (fun A R s => wpAny (model prog w) A.in1 (truthy (.ref a)) (fun b s' => R (.ok (.ret (.bool b))) s') (fun e s' => R (.error e) s') s) :=
  .of_wp fun A R s h => by
    obtain ⟨hp, g, d, tk, os⟩ := s
    have f1 := F.conv_sub_bool
    repeat (any_goals (first | assumption | (with_reducible refine wpAny_mono h (fun b s' hb => ?_) (fun e s' he => he)) | wp_step))
    all_goals first | exact ⟨_, rfl, hb⟩ | exact hb
end
section
variable {X : Cx} {CX : CXT} {k : Nat} {C f : Addr} {fd : FuncData} {ps : List Str} {sp : Sp} {E : XK}
theorem _root_.L2.Env0.in2 {P : Program} {w : World} {K : PySem.W.Frag} {mg : Str → Option Value} {base : Heap} {A : Around} {outer : List Env} {s : Shared} {H : Hp} (e : Env0 P w K mg base A outer s H) : Env0 P w K mg base A.in1.in1 outer s H := e.in1.in1
/-- bool(o) -/
theorem call_boolO (hs : PySem.W.findIn X.K (.ref C) "__bool__" = some (some (.ref f))) (hf : PySem.W.isFn X.K (.ref f) = true) (G : FnOk X.prog X.w X.K X.mg X.base CX k f fd ps sp) (hr : Room (k + 2) X.A) (hb : Binds X.K fd ps []) (hx : Passes CX X E) :
    CallR X (.type "bool") (rBoolO C sp E) := by
  intro pins s σ H xs us Q I r h
  obtain ⟨a, dx, fs, rfl, ea, q⟩ := h
  obtain ⟨u, rfl, ru⟩ := vals1 r
  obtain rfl : u = Value.ref a := ru
  refine callType_newIn PySem.F.called_bool PySem.F.newNe_bool (PySem.F.typeCall_bool_1 _) (PySem.F.newCall_bool_1 _) (fun obj => PySem.F.args_object_init_2 obj _) PySem.F.entry_bool_new boolnew ?_
  refine wpAny_mono (truthO (Q := fun b H' => Q (.bl b) H') hs hf G hb hx I hr.in1.in1 I.env0.in2 ea q) (fun b s' ⟨H', I', q'⟩ => ?_) fun e s' he => he
  exact ⟨PySem.typeIs_bool _ _, .bl b, H', I', rfl, q'⟩
end
end Ow

/-! text K2Iter -/
set_option Elab.async false
set_option linter.all false
set_option maxRecDepth 100000
set_option maxHeartbeats 1000000
namespace Ow
open PySem PySem.Spec PyProof.Rows L2
/-- an iterator at it over the tuple at t, at its start -/
def TuO (t it : Addr) : HO := .ext fun h => h.IsTupleIter it t 0
theorem tuO_ok {P : Program} {w : World} {H : Hp} {h : Heap} {t it : Addr} (e : h.IsTupleIter it t 0) : ObjOk P w H h it (TuO t it) := by
  obtain ⟨o, e1, e2, e3⟩ := e
  exact ⟨⟨o, e1, e2, e3⟩, ⟨o, e1⟩, fun _ _ ⟨u, b1, b2, b3⟩ k => ⟨u, k _ b1, b2, b3⟩⟩
section
variable {X : Cx} {pins : List (Addr × Obj)} {σ : L2.St} {H : Hp} {s : Shared}
/-- iter(t), t a tuple; the iterator is newer than the def's entry -/
def rIterT (X : Cx) : List V → Hp → VK → Prop := fun xs H Q => ∃ (t : Addr) (zs : List V), xs = [.ref t] ∧ SqT X.K H t zs ∧ ∀ it, H it = none → X.s_0.heap.objs.size ≤ it → Q (.ref it) (upd H it (TuO t it))
theorem call_iterT : CallR X (.builtin "iter") (rIterT X) := by
  intro pins s σ H xs us Q I r h
  obtain ⟨t, zs, rfl, hq, q⟩ := h
  obtain rfl := Vals.ref1 r
  obtain ⟨its, rv, pl, hz⟩ := I.tuple hq
  refine Calls.call_function_entry (by decide +kernel) (by decide +kernel) PySem.W.kdk_entry_iter (PySem.W.kdk_args_iter _) ?_
  unfold Builtin.«iter»
  refine wpAny_bind (m := someArgs "iter" 1 2 _) (wpAny_of_eq (a := [Value.ref t]) (by first | rfl | kernel_rfl!) ?_)
  refine wpAny_bind (m := pyIter (.ref t)) (wpAny_pyIter_tuple (show s.heap.IsTuple t its.toArray from pl) ?_)
  exact wpAny_pure ⟨_, rfl, .ref s.heap.objs.size, _, I.laid (t' := s.toks) (fun b u e => Heap.get?_push_of_some _ e) (Nat.le_refl _) (tuO_ok ⟨_, Heap.get?_push_size _ rfl, rfl, rfl⟩), rfl, q _ (I.hok.fresh (Nat.le_refl _)) I.sz⟩
/-- a tracked thing that is new is tracked no more -/
theorem forget {a : Addr} {φ : Heap → Prop} (I : Inv X pins σ H s) (ha : H a = some (.ext φ)) (n0 : X.s_0.heap.get? a = none) : Inv X pins σ (L2.delH H a) s := by
  have ne : ∀ {b : Addr} {u : HO}, H b = some u → (∀ ψ, u ≠ .ext ψ) → b ≠ a := fun {b u} e n q => by
    rw [q, ha] at e
    exact n φ (Option.some.inj e).symm
  have nn : ∀ {b : Addr}, H b = none → b ≠ a := fun {b} e q => by
    rw [q, ha] at e
    cases e
  have old : ∀ {b : Addr} {o : Obj}, X.s_0.heap.get? b = some o → b ≠ a := fun {b o} e q => by
    rw [q, n0] at e
    cases e
  refine ⟨I.ok, I.os, I.bare, ⟨I.base.keep, I.base.slot, fun b o e n hx => ?_, I.base.there, fun b xs e => ?_, fun b o u e => ?_, fun b ps e => ?_⟩, I.loc, I.cell, ?_, fun x c e => ?_, fun p hp => ?_, fun b u e => ?_, I.len⟩
  · rw [delH_ne (old e)]
    exact I.base.free b o e n hx
  · have q := I.base.tups b xs e
    rw [delH_ne (ne q (fun _ z => nomatch z))]
    exact q
  · have q := I.base.frzs b o u e
    rw [delH_ne (ne q (fun _ z => nomatch z))]
    exact q
  · obtain ⟨more, q⟩ := I.base.tbls b ps e
    exact ⟨more, by rw [delH_ne (ne q (fun _ z => nomatch z))]; exact q⟩
  · rw [delH_ne (nn I.free)]
    exact I.free
  · rw [delH_ne (nn (I.freeC x c e))]
    exact I.freeC x c e
  · obtain ⟨p1, p2, p3⟩ := I.pin p hp
    exact ⟨p1, by rw [delH_ne (nn p2)]; exact p2, p3⟩
  · have hb : b ≠ a := fun q => by
      rw [q, delH_same] at e
      cases e
    rw [delH_ne hb] at e
    refine (I.hok b u e).stay (fun _ _ _ r => r) (fun c r => ?_) fun c xs r => ?_
    · rw [delH_ne (ne r (fun _ z => nomatch z))]
      exact r
    · rw [delH_ne (ne r (fun _ z => nomatch z))]
      exact r
end
/-- what is asked of the own __iter__'s def: at the object at a, with the heap H, it gives a new iterator over the tuple at tp -/
def Gives1 (X : Cx) (k : Nat) (f : Addr) (a tp : Addr) (H : Hp) : Prop := ∀ (s : Shared), Env0 X.prog X.w X.K X.mg X.base X.A X.stack s H → Room k X.A → X.K.In s.heap →
  codeAny (model X.prog X.w) X.A (.call (.ref f) ⟨[.ref a], []⟩) (CR CX0 X.stack X.prog X.w H s (fun v H' => ∃ it, v = .ref it ∧ H it = none ∧ s.heap.objs.size ≤ it ∧ H' = upd H it (TuO tp it)) E0) s
def iOwn (X : Cx) (C : Addr) (k : Nat) (f : Addr) (te : TE) : TI := fun σ H R => te σ H fun x H1 => ∃ a dx fs tp ws, x = .ref a ∧ H1 a = some (.ins C dx fs) ∧ SqT X.K H1 tp ws ∧ Gives1 X k f a tp H1 ∧ R (Itt X.K tp) H1
theorem pi_own {X : Cx} {C f : Addr} {k : Nat} {tg e : Expr} {te : TE} (he : PE X e te) (hs : PySem.W.findIn X.K (.ref C) "__iter__" = some (some (.ref f))) (hf : PySem.W.isFn X.K (.ref f) = true) (hr : Room k X.A) : PI X tg e (iOwn X C k f te) := by
  refine ⟨fun pins s σ H R I h => ?_⟩
  refine thn (he.run pins s σ H _ I h) fun v s1 ⟨x, H1, I1, r1, a, dx, fs, tp, ws, ex, ea, ht, hG, q⟩ => ?_
  subst ex
  obtain rfl : v = Value.ref a := r1
  obtain ⟨mA, O, _⟩ := ins_get I1.hok ea
  obtain ⟨od, J, _⟩ := O.look
  obtain ⟨m, hF⟩ := I1.fr
  refine PySem.W.owit_iter hF I1.ok.mod.kin J hs hf (wpAny_call (codeAny_mono (hG s1 I1.env0 hr I1.kIn) fun rs s' hq => ?_))
  cases rs with
  | error e => exact (show False from hq).elim
  | ok fl =>
    cases fl with
    | ret u =>
      obtain ⟨v, H', I', rv, it, rfl, hn, hz, rfl⟩ := I1.after hq
      obtain rfl : u = Value.ref it := rv
      have ho : ObjOk X.prog X.w (upd H1 it (TuO tp it)) s'.heap it (TuO tp it) := I'.hok it _ upd_same
      have st : s'.heap.IsTupleIter it tp 0 := ho.1
      have n0 : X.s_0.heap.get? it = none := by
        cases e : X.s_0.heap.get? it with
        | none => rfl
        | some o => exact absurd (Heap.lt_size e) (Nat.not_lt.mpr (Nat.le_trans I1.sz hz))
      have J' := forget I' upd_same n0
      rw [delH_new hn] at J'
      unfold PySem.W.OwitIt
      have hT : s'.TypeIs (.ref it) "tuple_iterator" := let ⟨o, e1, e2, _⟩ := st; ⟨o, e1, e2⟩
      refine wpAny_specialOf hT PySem.F.slot_tuple_iterator_next.lookup ?_
      refine ⟨it, [it], _, _, H1, rfl, J', turn_tuple tp _, st, fun b hb => ?_, q⟩
      have e : b = it := by simpa using hb
      subst e
      refine ⟨hn, Nat.ne_of_gt (Nat.lt_of_lt_of_le I1.lt hz), I1.nofs hz, .inr (Nat.le_trans I1.sz hz), fun x c e z => ?_, fun p hp z => ?_⟩
      · obtain ⟨v, q⟩ := I1.cell x c e
        exact absurd (Nat.lt_of_lt_of_le q.lt (by rw [z]; exact hz)) (Nat.lt_irrefl _)
      · exact absurd (Nat.lt_of_lt_of_le (Heap.lt_size (I1.pin p hp).1) (by rw [z]; exact hz)) (Nat.lt_irrefl _)
    | next => exact False.elim hq
    | brk => exact False.elim hq
    | cont => exact False.elim hq
end Ow

/-! text K2KF -/
set_option Elab.async false
set_option linter.all false
set_option maxRecDepth 100000
set_option maxHeartbeats 1000000
namespace K2
open PySem PySem.Spec PyProof.Rows L2 RV EV He EF EI
abbrev gW (K : PySem.W.Frag) : Addr := ga K "Words"
abbrev gT (K : PySem.W.Frag) : Addr := ga K "BadText"
structure KF (P : Program) (w : World) (K : PySem.W.Frag) (mg : Str → Option Value) (base : Heap) : Prop where
  fr : ∀ x ∈ freesN, mg x = none
  ek : ∀ q ∈ errsN, ErrK K q.1 q.2
  gl : ∀ q ∈ errsN, mg q.1 = some (.ref (ga K q.1))
  tx : Cl2 P w K mg base "BadText" "line" "word" bT
  tops : ∀ q ∈ topsN, ∃ fd, FnP K q.1 (top q.2) (ga K q.1) fd ∧ mg q.1 = some (.ref (ga K q.1))
  gw : mg "Words" = some (.ref (gW K))
  cl : Cls K (gW K)
  mkr : Mk K (gW K) (ma K (gW K) "__init__")
  noP : NoAttr K (gW K) "parts"
  noL : NoAttr K (gW K) "line"
  noT : NoAttr K (gW K) "taken"
  meth : ∀ q ∈ methN, Meth K (gW K) q.1 (ma K (gW K) q.1) ∧ ∃ fd, FunD K q.1 ("Words." ++ q.1) (defArgs (wSt q.2)) (defBody (wSt q.2)) (defScope (wSt q.2)) [] [] (ma K (gW K) q.1) fd
  ini : ∃ fd, FunD K "__init__" "Words.__init__" (defArgs (wSt 0)) (defBody (wSt 0)) (defScope (wSt 0)) [.int 0] [] (ma K (gW K) "__init__") fd
  pr : PropOf K (gW K) "spot" (propAt K (gW K) "spot") (gtAt K (gW K) "spot")
  get : ∃ fd, FunD K "spot" "Words.spot" (defArgs sSpot) (defBody sSpot) (defScope sSpot) [] [] (gtAt K (gW K) "spot") fd
  tn : (cT K ("_law_called", none)).2 ≠ (cT K ("law", none)).2
  nb : BMeth K (gW K) "is_next" (ma K (gW K) "is_next")
  xE : PySem.W.exmOne K (.ref (gT K)) (.ref (ga K "EditionError")) = some true
  xT : PySem.W.exmOne K (.ref (gT K)) (.ref (gT K)) = some true
  xK : PySem.W.exmOne K (.ref (gT K)) (.type "KeyError") = some false
theorem b_text : Body2 (inClass (top 8) 0) "line" "word" :=
  ⟨⟨_, _, _, _, _, _, _, _, rfl⟩, ⟨rfl, rfl, rfl, by decide +kernel, rfl, by decide +kernel, by decide +kernel⟩, .inl rfl, .inl rfl, .inl rfl, fun _ _ _ _ _ _ _ _ _ _ => rfl, fun _ _ _ _ _ _ _ _ _ _ => rfl, by decide, by decide, by decide, by decide⟩
theorem kf {P : Program} {w : World} {K : PySem.W.Frag} {h h' : Heap} {mg : Str → Option Value} (X : K.In h) (G : h.Ns mainGlobals mg) (c : SaysS w h' K) (base : Heap) : KF P w K mg base := by
  have z : exS K = true := c.x.more
  obtain ⟨z, zg⟩ := ba z
  obtain ⟨z, zx3⟩ := ba z
  obtain ⟨z, zx2⟩ := ba z
  obtain ⟨z, zx1⟩ := ba z
  obtain ⟨z, zpr⟩ := ba z
  obtain ⟨z, zin⟩ := ba z
  obtain ⟨z, zer⟩ := ba z
  obtain ⟨z, zob⟩ := ba z
  obtain ⟨ztn, zbm⟩ := ba z
  obtain ⟨bm1, bm⟩ := ba zbm
  obtain ⟨bm2, bm3⟩ := ba bm
  have S : SaysD fas fns K := c.x.t.d
  have fact : ∀ {f : Fa}, f ∈ fas → f.ok K = true := fun h => S.facts h
  have m1 : ∀ {f : Fa}, f ∈ (freesN.map Fa.free) → f ∈ fas := fun h => List.mem_append_left _ (List.mem_append_left _ (List.mem_append_left _ h))
  have m2 : ∀ {f : Fa}, f ∈ (topsN.map fun q => Fa.glo q.1) → f ∈ fas := fun h => List.mem_append_left _ (List.mem_append_left _ (List.mem_append_right _ h))
  have m3 : ∀ {f : Fa}, f ∈ (methN.map fun q => Fa.meth "Words" q.1) → f ∈ fas := fun h => List.mem_append_left _ (List.mem_append_right _ h)
  have m4 : ∀ {f : Fa}, f ∈ ([.glo "Words", .cls "Words", .mkr "Words", .noat "Words" "parts", .noat "Words" "line", .noat "Words" "taken"] : List Fa) → f ∈ fas := fun h => List.mem_append_right _ h
  have hek : ∀ q ∈ errsN, ErrK K q.1 q.2 := fun q hq => errB_ok (List.all_eq_true.mp zer q hq) zob
  have hgl : ∀ q ∈ errsN, mg q.1 = some (.ref (ga K q.1)) := fun q hq => PySem.W.mg_of X G (hek q hq).nm
  have d1 : ∀ {d : DefD}, d ∈ (topsN.map dTop) → d ∈ fns := fun h => List.mem_append_left _ (List.mem_append_left _ h)
  have d2 : ∀ {d : DefD}, d ∈ (methN.map dMeth) → d ∈ fns := fun h => List.mem_append_left _ (List.mem_append_right _ h)
  have d3 : ∀ {d : DefD}, d ∈ [dInitW, dInitE] → d ∈ fns := fun h => List.mem_append_right _ h
  refine ⟨fun x hx => free_ok X G (fact (m1 (List.mem_map_of_mem hx))), hek, hgl, ?_, fun q hq => ?_, glo_ok X G (fact (m4 (by simp))), cls_ok (fact (m4 (by simp))), mkr_ok (fact (m4 (by simp))), noat_ok (fact (m4 (by simp))), noat_ok (fact (m4 (by simp))), noat_ok (fact (m4 (by simp))), fun q hq => ⟨?_, ?_⟩, ?_, propB_ok zpr, funA c.g zg, of_decide_eq_true ztn, ⟨?_, eqO_ok bm1, of_decide_eq_true bm2, by decide +kernel, bm3⟩,
    of_decide_eq_true zx1, of_decide_eq_true zx2, of_decide_eq_true zx3⟩
  · obtain ⟨i1, i⟩ := ba zin
    obtain ⟨i2, i3⟩ := ba i
    have no := eqO_ok (List.all_eq_true.mp i3 "line" (by decide))
    have no2 := eqO_ok (List.all_eq_true.mp i3 "word" (by decide))
    have E := hek ("BadText", bT) (by decide)
    obtain ⟨fd, F⟩ := S.defs (d3 (d := dInitE) (by simp))
    have F' : FunD K "__init__" "BadText.__init__" (defArgs (inClass (top 8) 0)) (defBody (inClass (top 8) 0)) (defScope (inClass (top 8) 0)) [] [] (ma K (ga K "BadText") "__init__") fd := F
    exact ⟨E, ⟨_, fd, eqO_ok i1, of_decide_eq_true i2, ok_init2 F' b_text E.ox no no2, pos2 F' b_text, kw2 F' b_text⟩, no, no2, hgl ("BadText", bT) (by decide)⟩
  · obtain ⟨fd, F⟩ := S.defs (d1 (List.mem_map_of_mem (f := dTop) hq))
    exact ⟨fd, F, glo_ok X G (fact (m2 (List.mem_map_of_mem (f := fun q : Str × Nat => Fa.glo q.1) hq)))⟩
  · exact meth_ok (fact (m3 (List.mem_map_of_mem (f := fun q : Str × Nat => Fa.meth "Words" q.1) hq)))
  · exact S.defs (d2 (List.mem_map_of_mem (f := dMeth) hq))
  · exact S.defs (d3 (d := dInitW) (by simp))
  · exact meth_ok (fact (m3 (List.mem_map_of_mem (f := fun q : Str × Nat => Fa.meth "Words" q.1) (a := (("is_next", 5) : Str × Nat)) (by decide))))
/-! ### raise BadText(line, word) -/
theorem mk3_eq {H : Hp} {a d C : Addr} {fs : List (Str × V)} (na : H a = none) (h : d ≠ a) : upd (L2.del (mkE H a d C fs) a) d (.xd fs) = upd H d (.xd fs) := by
  funext b
  by_cases e : b = d
  · rw [e, upd_same, upd_same]
  · rw [upd_ne e, upd_ne e]
    by_cases e2 : b = a
    · rw [e2, del_same, na]
    · rw [del_ne e2]
      unfold mkE
      rw [upd_ne e2, upd_ne e]
theorem mkb {H : Hp} {C : Addr} {f g : Str} {v u : V} {Q : XK} (q : ∀ d, H d = none → Q (.ref C) (some d) (upd H d (.xd [(g, u), (f, v)]))) :
    [v, u].length ≤ 1000 ∧ ∀ a, H a = none → spE2 C f g (.ref a :: ([v, u] ++ [])) (upd H a (exo a C none))
      (fun v H2 => v = .non ∧ ∃ (d : Addr) (fs : List (Str × V)), H2 a = some (exo a C (some d)) ∧ H2 d = some (exd d fs) ∧ H d = none ∧ Q (.ref C) (some d) (upd (L2.del H2 a) d (.xd fs))) (fun _ _ _ => False) := by
  refine ⟨by show 2 ≤ 1000; decide, fun a na => ⟨a, v, u, rfl, upd_same, fun d hd ne => ⟨rfl, d, [(g, u), (f, v)], ?_⟩⟩⟩
  rw [upd_ne ne] at hd
  rw [mk2_eq ne, mk3_eq na ne]
  exact ⟨(mkE_at ne).ob, (mkE_at ne).dc, hd, q d hd⟩
def tBad (K : PySem.W.Frag) (te te2 : TE) (W : WX) : TS := fun _ σ H => tMkO (gT K) (spE2 (gT K) "line" "word") [] (tCons te (tCons te2 tNil)) σ H fun cls d H' => W cls d σ H'
theorem ps_bad {X : Cx} {W : WX} {e e2 : Expr} {te te2 : TE} {p pos pos2 : Pos} (T : KF X.prog X.w X.K X.mg X.base) (hr : Room 2 X.A) (hc : X.calm = true) (tk : Takes X W) (hg : Gl X "BadText") (he : PE X e te) (he2 : PE X e2 te2)
    (hs : starEach [e, e2] X.env = (false, eval e X.env) :: starEach [e2] X.env := by rfl) (hs2 : starEach [e2] X.env = (false, eval e2 X.env) :: starEach [] X.env := by rfl)
    (hpl : (backTo pos (starEach [e2] X.env)).any (·.1) = false := by rfl) : PS X (.Raise (some (.Call (.Name "BadText" p) [e, e2] [] pos)) none pos2) (tBad X.K te te2 W) := by
  obtain ⟨fI, fd, iC, tI, F1, b1, _⟩ := T.tx.mkr
  exact ps_raise hc tk (pmk_oex (dvs := []) T.tx.e.ox iC tI F1 hr b1 .nil (fun _ _ _ _ _ _ _ z => z.elim) hg T.tx.gl (pa_cons he (pa_cons he2 pa_nil (hs := hs2)) (hs := hs)) (by decide) hs hpl)
end K2

/-! text K2W1 -/
set_option Elab.async false
set_option linter.all false
set_option maxRecDepth 100000
set_option maxHeartbeats 1000000
namespace K2
open PySem PySem.Spec PyProof.Rows L2 RV EV He EF EI
/-! The class Words: is_next, step, refuse, end. -/
/-- a Words at p: its parts at tp, its line, how many were taken -/
structure WO (K : PySem.W.Frag) (H : Hp) (p dx tp : Addr) (ws : List Str) (ln : Int) (t : Nat) : Prop where
  ob : H p = some (.ins (gW K) dx [("parts", .ref tp), ("line", .int ln), ("taken", .int t)])
  ps : H tp = some (.tup (ws.map V.str))
  le : t ≤ ws.length
  lz : ws.length ≤ 1000
def Same2 (H H' : Hp) (p : Addr) : Prop := ∀ c o, c ≠ p → H c = some o → H' c = some o
theorem WO.same {K : PySem.W.Frag} {H H' : Hp} {p dx tp : Addr} {ws : List Str} {ln : Int} {t : Nat} (O : WO K H p dx tp ws ln t) (s : Same H H') : WO K H' p dx tp ws ln t := ⟨s _ _ O.ob, s _ _ O.ps, O.le, O.lz⟩
theorem WO.ne {K : PySem.W.Frag} {H : Hp} {p dx tp : Addr} {ws : List Str} {ln : Int} {t : Nat} (O : WO K H p dx tp ws ln t) : tp ≠ p := ne_of O.ps O.ob (fun z => nomatch z)
def nextB (ws : List Str) (t : Nat) (ss : List Str) : Bool := decide (t < ws.length) && (ss.isEmpty || decide (ws.getD t "" ∈ ss))
theorem getD_at {ws : List Str} {t : Nat} (h : t < ws.length) : ws[t]? = some (ws.getD t "") := by
  rw [List.getD_eq_getElem?_getD, List.getElem?_eq_getElem h]
  rfl
theorem inV_str (x : Str) (ss : List Str) : inV (.str x) (ss.map V.str) = decide (x ∈ ss) := by
  unfold inV
  induction ss with
  | nil => rfl
  | cons s ss ih =>
    rw [List.map_cons, List.any_cons, ih]
    have e : eqV (.str s) (.str x) = decide (s = x) := by
      unfold eqV
      rfl
    rw [e]
    by_cases h : s = x
    · simp [h]
    · have h2 : x ≠ s := fun z => h z.symm
      simp [h, h2]
theorem flat_strs (ss : List Str) : (ss.map V.str).all flatV = true := by
  rw [List.all_eq_true]
  intro v hv
  obtain ⟨s, _, rfl⟩ := List.mem_map.mp hv
  rfl
/-- o.m(), by a positional promise -/
theorem pe_meth0R {X : Cx} {CX : CXT} {k : Nat} {C f : Addr} {m : Str} {sp : Sp} {E : XK} {o : Expr} {ta : TE} {apos pos : Pos} {pl : Sem Bool} (he : PE X o ta) (c : Cls X.K C) (hm : Meth X.K C m f)
    (F : FnR X.prog X.w X.K X.mg X.base CX k f sp) (hr : Room k X.A) (hx : Passes CX X E)
    (ht : eval (.Call (.Attribute o m apos) [] [] pos) X.env = (do
      let u ← eval o X.env
      standAt apos.atName
      let (g, one) ← holding [u] (getMethod u m pl)
      callWith pos g one (backTo pos (starEach [] X.env)) (backToKw pos (keywordEach [] X.env))) := by rfl) :
    PE X (.Call (.Attribute o m apos) [] [] pos) (tMethR C m sp E ta tNil) := by
  refine ⟨fun pins s σ H Q I h => PySem.W.methodCall_KW (pl := pl) (thn (he.run pins s σ H _ I h) fun v s1 hv => ?_) ht⟩
  obtain ⟨x, H1, I1, rx, a, dx, fs, rfl, ea, l, q⟩ := hv
  obtain rfl : v = Value.ref a := rx
  exact getmeth_ok I1 ea c hm l (PySem.W.callWith_K0 (first := [.ref a]) I1.kIn hm.kp (wpAny_call (run_fnR (us := [.ref a]) (vs := [.ref a]) F hr hx I1 (.cons rfl .nil) q)))
def spNext0 (K : PySem.W.Frag) : Sp := fun vs H Q _ => ∃ p dx tp ws ln t T ss, vs = [.ref p, .ref T] ∧ WO K H p dx tp ws ln t ∧ H T = some (.tup (ss.map V.str)) ∧ ss.length ≤ 5 ∧ Q (.bl (nextB ws t ss)) H
def spStar (sp : Sp) : Sp := fun vs H Q E => ∃ ws rest, vs = ws ++ rest ∧ ws.length = (["self"] : List Str).length ∧ rest.length ≤ sizeLine ∧ ∀ p, H p = none → sp (ws ++ [V.ref p]) (upd H p (.tup rest)) Q E
section
variable {P : Program} {w : World} {K : PySem.W.Frag} {mg : Str → Option Value} {base : Heap}
abbrev mAd (K : PySem.W.Frag) (m : Str) : Addr := ma K (gW K) m
abbrev scNx_N : List Str := ["self", "some"]
theorem scNx : FnScope scNx_N ["self", "some"] (defScope (wSt 5)) := ⟨rfl, rfl, rfl, by decide +kernel, rfl, by decide +kernel, by decide +kernel⟩
theorem ok_next (T : KF P w K mg base) : FnR P w K mg base CX0 1 (mAd K "is_next") (spStar (spNext0 K)) := by
  obtain ⟨_, fd, F⟩ := T.meth ("is_next", 5) (by decide)
  obtain ⟨oc, od, dV, kV, doc, pm, an, cdv, ct, osl, rfl, lk, hcd, hD, hK⟩ := F.ex
  rcases hD with ⟨_, rfl⟩ | ⟨e, _⟩
  case inr => exact absurd rfl e
  refine StX.fn_star (ps := ["self"]) (pv := "some") lk hcd scNx StX.cxUp_none (StX.bind_star1 (B := fun us => bindArgs _ ⟨us, []⟩) (fun a => rfl) fun a r rs => rfl) fun A outer s H vs Q E hr h => ?_
  obtain ⟨p, dx, tp, ws, ln, t, T', ss, rfl, O, hT, hz, k⟩ := h
  refine ⟨_, PSs.nox (pss_cons (ps_if (pt_cmpR op_eq (pe_fld (pv 0) rfl) (pe_callB call_len_seq (by rfl) (T.fr "len" (by decide)) PySem.boot_len (pa_cons (pe_fld (pv 0) rfl) pa_nil)) (nomark _)) (pss_one (ps_ret pe_bl)) pss_nil)
    (pss_one (ps_ret (pe_or (pe_notT (pv 1)) (pe_one (pe_cmpR op_in_seq (pe_ix ix_tup (pe_fld (pv 0) rfl) (pe_fld (pv 0) rfl) (fun _ _ => rfl)) (pv 1) rfl)))))), ?_⟩
  refine ⟨_, rfl, p, _, dx, _, _, rfl, O.ob, T.cl, T.noT, rfl, _, rfl, p, _, dx, _, _, rfl, O.ob, T.cl, T.noP, rfl, tp, _, rfl, .inr (SqT.of O.ps), rfl, _, rfl, ?_⟩
  have e0 : (V.int (t : Int) = V.int ((ws.map V.str).length : Nat)) ↔ t = ws.length := by
    rw [List.length_map]
    constructor
    · intro z
      have := V.int.inj z
      omega
    · rintro rfl; rfl
  unfold nextB at k
  by_cases h0 : t = ws.length
  · refine if_posB (decide_eq_true (e0.mpr h0)) ?_
    rw [decide_eq_false (by omega), Bool.false_and] at k
    exact k
  · have ht : t < ws.length := by have := O.le; omega
    refine if_negB (decide_eq_false fun z => h0 (e0.mp z)) ⟨_, rfl, !(ss.map V.str).isEmpty, ?_, ?_⟩
    · exact .inr (.inl ⟨_, SqT.of hT, rfl⟩)
    · rw [decide_eq_true ht, Bool.true_and] at k
      cases e : ss.isEmpty with
      | true =>
        rw [e, Bool.true_or] at k
        have e2 : (ss.map V.str).isEmpty = true := by simpa using e
        rw [e2]
        exact ⟨_, rfl, if_posB rfl k⟩
      | false =>
        rw [e, Bool.false_or] at k
        have e2 : (ss.map V.str).isEmpty = false := by simpa using e
        rw [e2]
        refine ⟨_, rfl, if_negB rfl ⟨_, rfl, p, _, dx, _, _, rfl, O.ob, T.cl, T.noP, rfl, _, rfl, p, _, dx, _, _, rfl, O.ob, T.cl, T.noT, rfl, tp, _, _, .str (ws.getD t ""), rfl, rfl, SqT.of O.ps, atI_nat ?_, _, rfl, T', _, rfl, .inr (SqT.of hT), rfl, flat_strs ss, ?_⟩⟩
        · rw [List.getElem?_map, getD_at ht]
          rfl
        · show Q (.bl (inV (.str (ws.getD t "")) (ss.map V.str))) H
          rw [inV_str]
          exact k
/-- is_next called with the words ss -/
theorem nxt_of {H : Hp} {Q : VK} {E : XK} {p dx tp : Addr} {ws : List Str} {ln : Int} {t : Nat} (ss : List Str) (O : WO K H p dx tp ws ln t) (hz : ss.length ≤ 5) (k : ∀ H', Same H H' → Q (.bl (nextB ws t ss)) H') :
    spStar (spNext0 K) (.ref p :: ss.map V.str) H Q E := by
  refine ⟨[.ref p], ss.map V.str, rfl, rfl, by rw [List.length_map, sizeLine_eq]; omega, fun T nT => ?_⟩
  have s := same_new (o := .tup (ss.map V.str)) nT
  exact ⟨p, dx, tp, ws, ln, t, T, ss, rfl, O.same s, upd_same, hz, k _ s⟩
/-! step -/
def spStep (K : PySem.W.Frag) : Sp := fun vs H Q _ => ∃ p dx tp ws ln t, vs = [.ref p] ∧ WO K H p dx tp ws ln t ∧ t < ws.length ∧ ∀ H', Same2 H H' p → WO K H' p dx tp ws ln (t + 1) → Q (.str (ws.getD t "")) H'
abbrev scSt_N : List Str := ["self", "word"]
theorem scSt : FnScope scSt_N ["self"] (defScope (wSt 10)) := ⟨rfl, rfl, rfl, by decide +kernel, rfl, by decide +kernel, by decide +kernel⟩
theorem methF (T : KF P w K mg base) {q : Str × Nat} (h : q ∈ methN) : ∃ fd, FunD K q.1 ("Words." ++ q.1) (defArgs (wSt q.2)) (defBody (wSt q.2)) (defScope (wSt q.2)) [] [] (mAd K q.1) fd := (T.meth q h).2
theorem ok_step (T : KF P w K mg base) {fd : FuncData} (F : FunD K "step" "Words.step" (defArgs (wSt 10)) (defBody (wSt 10)) (defScope (wSt 10)) [] [] (mAd K "step") fd) : FnOk P w K mg base CX0 1 (mAd K "step") fd ["self"] (spStep K) := by
  refine F.ok scSt (fun vs H Q E h => ?_) (fun cdv A outer s H vs Q E hr h => ?_)
  · obtain ⟨p, dx, tp, ws, ln, t, rfl, _⟩ := h
    rfl
  · obtain ⟨p, dx, tp, ws, ln, t, rfl, O, ht, k⟩ := h
    refine ⟨_, PSs.nox (pss_cons (ps_set (i := 1) scSt.nd rfl (.inl rfl) (pe_ix ix_tup (pe_fld (pv 0) rfl) (pe_fld (pv 0) rfl) (fun _ _ => rfl))) (pss_cons (ps_fldaug (pv 0) pe_int in_add) (pss_one (ps_ret (pv 1))))), ?_⟩
    refine ⟨_, rfl, p, _, dx, _, _, rfl, O.ob, T.cl, T.noP, rfl, _, rfl, p, _, dx, _, _, rfl, O.ob, T.cl, T.noT, rfl, tp, _, _, .str (ws.getD t ""), rfl, rfl, SqT.of O.ps, atI_nat ?_, ?_⟩
    · rw [List.getElem?_map, getD_at ht]
      rfl
    · have O2 : WO K (upd H p (.ins (gW K) dx [("parts", .ref tp), ("line", .int ln), ("taken", .int ((t : Int) + 1))])) p dx tp ws ln (t + 1) := ⟨by rw [upd_same]; rfl, by rw [upd_ne O.ne]; exact O.ps, ht, O.lz⟩
      refine ⟨_, rfl, p, gW K, dx, _, _, rfl, O.ob, T.cl, T.noT, rfl, _, _, rfl, rfl, _, _, O.ob, by show 3 < 1000; decide, ?_⟩
      exact ⟨_, rfl, k _ (fun c o hc e => by rw [upd_ne hc]; exact e) O2⟩
/-! refuse -/
/-- what BadText(ln, wd) tells, to those that catch it -/
def BadE (K : PySem.W.Frag) (H : Hp) (E : XK) (ln wd : V) : Prop := ∀ d, H d = none → E (.ref (gT K)) (some d) (upd H d (.xd [("word", wd), ("line", ln)]))
def spRefuse (K : PySem.W.Frag) : Sp := fun vs H _ E => ∃ p dx tp ws ln t, vs = [.ref p] ∧ WO K H p dx tp ws ln t ∧ BadE K H E (.int ln) (.int t)
theorem scRf : FnScope ["self"] ["self"] (defScope (wSt 11)) := ⟨rfl, rfl, rfl, by decide +kernel, rfl, by decide +kernel, by decide +kernel⟩
theorem ok_refuse (T : KF P w K mg base) {fd : FuncData} (F : FunD K "refuse" "Words.refuse" (defArgs (wSt 11)) (defBody (wSt 11)) (defScope (wSt 11)) [] [] (mAd K "refuse") fd) : FnOk P w K mg base (L2.CX P w) 3 (mAd K "refuse") fd ["self"] (spRefuse K) := by
  refine F.ok scRf (fun vs H Q E h => ?_) (fun cdv A outer s H vs Q E hr h => ?_)
  · obtain ⟨p, dx, tp, ws, ln, t, rfl, _⟩ := h
    rfl
  · obtain ⟨p, dx, tp, ws, ln, t, rfl, O, k⟩ := h
    refine ⟨_, pss_one (ps_bad T hr rfl (takes_of rfl rfl rfl rfl) (by rfl) (pe_fld (pv 0) rfl) (pe_fld (pv 0) rfl)), ?_⟩
    refine ⟨_, rfl, p, _, dx, _, _, rfl, O.ob, T.cl, T.noL, rfl, _, rfl, p, _, dx, _, _, rfl, O.ob, T.cl, T.noT, rfl, ?_⟩
    exact mkb k
end
end K2

/-! text K2W2 -/
set_option Elab.async false
set_option linter.all false
set_option maxRecDepth 100000
set_option maxHeartbeats 1000000
namespace K2
open PySem PySem.Spec PyProof.Rows L2 RV EV He EF EI
/-! The class Words: take, end, take_by, take_fix, take_number. -/
theorem _root_.L2.FnOk.up0 {P : Program} {w : World} {K : PySem.W.Frag} {mg : Str → Option Value} {base : Heap} {CX : CXT} {k : Nat} {f : Addr} {fd : FuncData} {ps : List Str} {sp : Sp} (F : FnOk P w K mg base CX0 k f fd ps sp) : FnOk P w K mg base CX k f fd ps sp :=
  ⟨F.len, fun A outer s H args us vs Q E hr e0 hb r h => codeAny_mono (F.run A outer s H args us vs Q E hr e0 hb r h) fun rs s' hq => by
    cases rs with
    | error e => exact (show False from hq).elim
    | ok fl => cases fl <;> exact hq⟩
/-- the next word is taken, or refused -/
structure Out (K : PySem.W.Frag) (H : Hp) (p dx tp : Addr) (ws : List Str) (ln : Int) (t : Nat) (b : Bool) (v : V) (Q : VK) (E : XK) : Prop where
  yes : b = true → ∀ H', Same2 H H' p → WO K H' p dx tp ws ln (t + 1) → Q v H'
  no : b = false → ∀ H', Same H H' → BadE K H' E (.int ln) (.int t)
theorem Same.two {H H1 H2 : Hp} {p : Addr} (a : Same H H1) (b : Same2 H1 H2 p) : Same2 H H2 p := fun c o hc e => b c o hc (a c o e)
theorem nextB_lt {ws : List Str} {t : Nat} {ss : List Str} (h : nextB ws t ss = true) : t < ws.length := of_decide_eq_true (Bool.and_eq_true_iff.mp h).1
def spTake0 (K : PySem.W.Frag) : Sp := fun vs H Q E => ∃ p dx tp ws ln t T ss, vs = [.ref p, .ref T] ∧ WO K H p dx tp ws ln t ∧ H T = some (.tup (ss.map V.str)) ∧ ss.length ≤ 5 ∧ Out K H p dx tp ws ln t (nextB ws t ss) (.str (ws.getD t "")) Q E
section
variable {P : Program} {w : World} {K : PySem.W.Frag} {mg : Str → Option Value} {base : Heap}
/-- the methods as they are called -/
structure MC (P : Program) (w : World) (K : PySem.W.Frag) (mg : Str → Option Value) (base : Heap) : Prop where
  nx : FnR P w K mg base CX0 1 (mAd K "is_next") (spStar (spNext0 K))
  st : ∃ fd, FnOk P w K mg base CX0 1 (mAd K "step") fd ["self"] (spStep K) ∧ L2.Binds K fd ["self"] []
  rf : ∃ fd, FnOk P w K mg base (L2.CX P w) 3 (mAd K "refuse") fd ["self"] (spRefuse K) ∧ L2.Binds K fd ["self"] []
theorem mc (T : KF P w K mg base) : MC P w K mg base := by
  obtain ⟨_, f1, F1⟩ := T.meth ("step", 10) (by decide)
  obtain ⟨_, f2, F2⟩ := T.meth ("refuse", 11) (by decide)
  exact ⟨ok_next T, ⟨f1, ok_step T F1, FunD.bindsN F1 fun _ _ _ _ _ _ us hl => match us, hl with | [_], _ => rfl⟩, ⟨f2, ok_refuse T F2, FunD.bindsN F2 fun _ _ _ _ _ _ us hl => match us, hl with | [_], _ => rfl⟩⟩
theorem mt (T : KF P w K mg base) (q : Str × Nat) (h : q ∈ methN) : Meth K (gW K) q.1 (mAd K q.1) := (T.meth q h).1
abbrev scTk_N : List Str := ["self", "some"]
theorem scTk : FnScope scTk_N ["self", "some"] (defScope (wSt 6)) := ⟨rfl, rfl, rfl, by decide +kernel, rfl, by decide +kernel, by decide +kernel⟩
theorem ok_take (T : KF P w K mg base) : FnR P w K mg base (L2.CX P w) 4 (mAd K "take") (spStar (spTake0 K)) := by
  obtain ⟨_, fd, F⟩ := T.meth ("take", 6) (by decide)
  obtain ⟨nx, ⟨fS, GS, bS⟩, ⟨fR, GR, bR⟩⟩ := mc T
  obtain ⟨oc, od, dV, kV, doc, pm, an, cdv, ct, osl, rfl, lk, hcd, hD, hK⟩ := F.ex
  rcases hD with ⟨_, rfl⟩ | ⟨e, _⟩
  case inr => exact absurd rfl e
  refine StX.fn_star (ps := ["self"]) (pv := "some") lk hcd scTk StX.cxUp (StX.bind_star1 (B := fun us => bindArgs _ ⟨us, []⟩) (fun a => rfl) fun a r rs => rfl) fun A outer s H vs Q E hr h => ?_
  obtain ⟨p, dx, tp, ws, ln, t, T', ss, rfl, O, hT, hz, k⟩ := h
  refine ⟨_, pss_cons (ps_if (pt_not (pt_val (pe_methS (E := E0) (pv 0) T.cl T.nb nx (hr.mono (by decide)) pass0 (pv 1))))
      (pss_one (ps_expr (pe_meth0 (E := E) (pv 0) T.cl (mt T ("refuse", 11) (by decide)) GR hr bR .nil (passes_call (takes_of rfl rfl rfl rfl) fun _ _ _ _ h => h)))) pss_nil)
    (pss_one (ps_ret (pe_meth0 (E := E0) (pv 0) T.cl (mt T ("step", 10) (by decide)) GS (hr.mono (by decide)) bS .nil pass0))), ?_⟩
  refine ⟨_, rfl, p, dx, _, rfl, O.ob, rfl, fun q nq => ?_⟩
  have s1 := same_new (o := .met (mAd K "is_next") p) nq
  refine ⟨_, rfl, T', _, rfl, SqT.of (s1 _ _ hT), upd_same, nxt_of ss (O.same s1) hz fun H2 s2 => ⟨nextB ws t ss, rfl, ?_⟩⟩
  have s2 := s1.trans s2
  have O2 := O.same s2
  cases e : nextB ws t ss with
  | true => exact if_negB rfl ⟨_, rfl, p, dx, _, rfl, O2.ob, rfl, p, dx, tp, ws, ln, t, rfl, O2, nextB_lt e, fun H3 s3 O3 => k.yes e H3 (Same.two s2 s3) O3⟩
  | false => exact if_posB rfl ⟨_, rfl, p, dx, _, rfl, O2.ob, rfl, p, dx, tp, ws, ln, t, rfl, O2, k.no e H2 s2⟩
theorem tak_of {H : Hp} {Q : VK} {E : XK} {p dx tp : Addr} {ws : List Str} {ln : Int} {t : Nat} (ss : List Str) (O : WO K H p dx tp ws ln t) (hz : ss.length ≤ 5) (k : Out K H p dx tp ws ln t (nextB ws t ss) (.str (ws.getD t "")) Q E) :
    spStar (spTake0 K) (.ref p :: ss.map V.str) H Q E := by
  refine ⟨[.ref p], ss.map V.str, rfl, rfl, by rw [List.length_map, sizeLine_eq]; omega, fun T nT => ?_⟩
  have s := same_new (o := .tup (ss.map V.str)) nT
  exact ⟨p, dx, tp, ws, ln, t, T, ss, rfl, O.same s, upd_same, hz, ⟨fun e H' s' O' => k.yes e H' (Same.two s s') O', fun e H' s' => k.no e H' (s.trans s')⟩⟩
/-! end -/
def spEnd (K : PySem.W.Frag) : Sp := fun vs H Q E => ∃ p dx tp ws ln t, vs = [.ref p] ∧ WO K H p dx tp ws ln t ∧ (t = ws.length → ∀ H', Same H H' → Q .non H') ∧ (t < ws.length → ∀ H', Same H H' → BadE K H' E (.int ln) (.int t))
theorem scEn : FnScope ["self"] ["self"] (defScope (wSt 13)) := ⟨rfl, rfl, rfl, by decide +kernel, rfl, by decide +kernel, by decide +kernel⟩
theorem ok_end (T : KF P w K mg base) {fd : FuncData} (F : FunD K "end" "Words.end" (defArgs (wSt 13)) (defBody (wSt 13)) (defScope (wSt 13)) [] [] (mAd K "end") fd) : FnOk P w K mg base (L2.CX P w) 4 (mAd K "end") fd ["self"] (spEnd K) := by
  obtain ⟨nx, ⟨fS, GS, bS⟩, ⟨fR, GR, bR⟩⟩ := mc T
  refine F.ok scEn (fun vs H Q E h => ?_) (fun cdv A outer s H vs Q E hr h => ?_)
  · obtain ⟨p, dx, tp, ws, ln, t, rfl, _⟩ := h
    rfl
  · obtain ⟨p, dx, tp, ws, ln, t, rfl, O, k1, k2⟩ := h
    refine ⟨_, pss_one (ps_if (pt_val (pe_meth0R (E := E0) (pv 0) T.cl (mt T ("is_next", 5) (by decide)) nx (hr.mono (by decide)) pass0))
      (pss_one (ps_expr (pe_meth0 (E := E) (pv 0) T.cl (mt T ("refuse", 11) (by decide)) GR hr bR .nil (passes_call (takes_of rfl rfl rfl rfl) fun _ _ _ _ h => h)))) pss_nil), ?_⟩
    refine ⟨_, rfl, p, dx, _, rfl, O.ob, rfl, nxt_of [] O (by decide) fun H2 s2 => ⟨_, rfl, ?_⟩⟩
    by_cases h : t < ws.length
    · refine if_posB (by unfold nextB; rw [decide_eq_true h]; rfl) ⟨_, rfl, p, dx, _, rfl, (O.same s2).ob, rfl, p, dx, tp, ws, ln, t, rfl, O.same s2, k2 h H2 s2⟩
    · have := O.le
      refine if_negB (by unfold nextB; rw [decide_eq_false h]; rfl) (k1 (by omega) H2 s2)
/-! take_by -/
def spBy (K : PySem.W.Frag) (r : Addr) (spr : Sp) : Sp := fun vs H Q E => ∃ p dx tp ws ln t, vs = [.ref p, .ref r] ∧ WO K H p dx tp ws ln t ∧ (t = ws.length → ∀ H', Same H H' → BadE K H' E (.int ln) (.int t)) ∧
  (t < ws.length → ∀ (H1 : Hp) (Q1 : VK), Same H H1 → (∀ b H2, Same H1 H2 → Out K H2 p dx tp ws ln t b (.str (ws.getD t "")) Q E → Q1 (.bl b) H2) → spr [.str (ws.getD t "")] H1 Q1 E)
abbrev scBy_N : List Str := ["self", "rule"]
theorem scBy : FnScope scBy_N ["self", "rule"] (defScope (wSt 9)) := ⟨rfl, rfl, rfl, by decide +kernel, rfl, by decide +kernel, by decide +kernel⟩
theorem ok_by (T : KF P w K mg base) {fd fdr : FuncData} {r : Addr} {psr : List Str} {spr : Sp} {kr : Nat} (F : FunD K "take_by" "Words.take_by" (defArgs (wSt 9)) (defBody (wSt 9)) (defScope (wSt 9)) [] [] (mAd K "take_by") fd)
    (R : FnOk P w K mg base (L2.CX P w) kr r fdr psr spr) (hk : kr ≤ 3) (kp : PySem.W.keepIn K (.ref r) = true) (br : L2.Binds K fdr psr []) : FnOk P w K mg base (L2.CX P w) 4 (mAd K "take_by") fd ["self", "rule"] (spBy K r spr) := by
  obtain ⟨nx, ⟨fS, GS, bS⟩, ⟨fR, GR, bR⟩⟩ := mc T
  refine F.ok scBy (fun vs H Q E h => ?_) (fun cdv A outer s H vs Q E hr h => ?_)
  · obtain ⟨p, dx, tp, ws, ln, t, rfl, _⟩ := h
    rfl
  · obtain ⟨p, dx, tp, ws, ln, t, rfl, O, k1, k2⟩ := h
    refine ⟨_, pss_cons (ps_if (PW.pt (pw_or (pt_not (pt_val (pe_meth0R (E := E0) (pv 0) T.cl (mt T ("is_next", 5) (by decide)) nx (hr.mono (by decide)) pass0)))
          (pw_or1 (pt_cmpR op_isnot_bl (pe_callL (i := 1) (f := r) (E := E) (dvs := []) R (hr.mono hk) rfl (.inl rfl) kp br .nil (passes_call (takes_of rfl rfl rfl rfl) fun _ _ _ _ h => h) (pa_cons (pe_ix ix_tup (pe_fld (pv 0) rfl) (pe_fld (pv 0) rfl) (fun _ _ => rfl)) pa_nil)) pe_bl (nomark _)))))
        (pss_one (ps_expr (pe_meth0 (E := E) (pv 0) T.cl (mt T ("refuse", 11) (by decide)) GR hr bR .nil (passes_call (takes_of rfl rfl rfl rfl) fun _ _ _ _ h => h)))) pss_nil)
      (pss_one (ps_ret (pe_meth0 (E := E0) (pv 0) T.cl (mt T ("step", 10) (by decide)) GS (hr.mono (by decide)) bS .nil pass0))), ?_⟩
    refine ⟨_, rfl, p, dx, _, rfl, O.ob, rfl, nxt_of [] O (by decide) fun H1 s1 => ⟨nextB ws t [], rfl, ?_⟩⟩
    have O1 := O.same s1
    by_cases h : t < ws.length
    · rw [show nextB ws t [] = true by unfold nextB; rw [decide_eq_true h]; rfl]
      refine if_negB rfl ⟨rfl, _, rfl, p, _, dx, _, _, rfl, O1.ob, T.cl, T.noP, rfl, _, rfl, p, _, dx, _, _, rfl, O1.ob, T.cl, T.noT, rfl, tp, _, _, .str (ws.getD t ""), rfl, rfl, SqT.of O1.ps, atI_nat ?_, ?_⟩
      · rw [List.getElem?_map, getD_at h]
        rfl
      · refine k2 h H1 _ s1 fun b H2 s2 o => ⟨b, true, rfl, rfl, _, rfl, ?_⟩
        have O2 := O1.same s2
        cases b with
        | true => exact if_negB rfl ⟨_, rfl, p, dx, _, rfl, O2.ob, rfl, p, dx, tp, ws, ln, t, rfl, O2, h, fun H3 s3 O3 => o.yes rfl H3 s3 O3⟩
        | false => exact if_posB rfl ⟨_, rfl, p, dx, _, rfl, O2.ob, rfl, p, dx, tp, ws, ln, t, rfl, O2, o.no rfl H2 fun _ _ e => e⟩
    · rw [show nextB ws t [] = false by unfold nextB; rw [decide_eq_false h]; rfl]
      have := O.le
      exact if_posB rfl (if_posB rfl ⟨_, rfl, p, dx, _, rfl, O1.ob, rfl, p, dx, tp, ws, ln, t, rfl, O1, k1 (by omega) H1 s1⟩)
theorem Out.same {H H1 : Hp} {p dx tp : Addr} {ws : List Str} {ln : Int} {t : Nat} {b : Bool} {v : V} {Q : VK} {E : XK} (o : Out K H p dx tp ws ln t b v Q E) (s : Same H H1) : Out K H1 p dx tp ws ln t b v Q E :=
  ⟨fun e H' s' O' => o.yes e H' (Same.two s s') O', fun e H' s' => o.no e H' (s.trans s')⟩
/-! take_fix -/
def spTFix (K : PySem.W.Frag) : Sp := fun vs H Q E => ∃ p dx tp ws ln t, vs = [.ref p] ∧ WO K H p dx tp ws ln t ∧ (∀ x ∈ ws, x.length ≤ 1000000) ∧ Out K H p dx tp ws ln t (decide (t < ws.length) && isFixB (ws.getD t "")) (.str (ws.getD t "")) Q E
theorem scTf : FnScope ["self"] ["self"] (defScope (wSt 7)) := ⟨rfl, rfl, rfl, by decide +kernel, rfl, by decide +kernel, by decide +kernel⟩
theorem getD_mem {ws : List Str} {t : Nat} (h : t < ws.length) : ws.getD t "" ∈ ws := List.mem_of_getElem? (getD_at h)
theorem blt2 (T : KF P w K mg base) : Blt2 mg := ⟨T.fr _ (by decide), T.fr _ (by decide), T.fr _ (by decide), T.fr _ (by decide), T.fr _ (by decide), T.fr _ (by decide)⟩
theorem ok_tfix (T : KF P w K mg base) {fd : FuncData} (F : FunD K "take_fix" "Words.take_fix" (defArgs (wSt 7)) (defBody (wSt 7)) (defScope (wSt 7)) [] [] (mAd K "take_fix") fd) : FnOk P w K mg base (L2.CX P w) 5 (mAd K "take_fix") fd ["self"] (spTFix K) := by
  obtain ⟨fdF, FF, gF⟩ := T.tops ("is_fix", 4) (by decide)
  obtain ⟨_, fB, FB⟩ := T.meth ("take_by", 9) (by decide)
  have GF : FnOk P w K mg base (L2.CX P w) 1 (ga K "is_fix") fdF ["value"] (spFix K) := (ok_fix FF (blt2 T)).up0
  have bF : L2.Binds K fdF ["value"] [] := FunD.bindsN FF fun _ _ _ _ _ _ us hl => match us, hl with | [_], _ => rfl
  have GB := ok_by T FB GF (by decide) FF.kp bF
  have bB : L2.Binds K fB ["self", "rule"] [] := FunD.bindsN FB fun _ _ _ _ _ _ us hl => match us, hl with | [_, _], _ => rfl
  refine F.ok scTf (fun vs H Q E h => ?_) (fun cdv A outer s H vs Q E hr h => ?_)
  · obtain ⟨p, dx, tp, ws, ln, t, rfl, _⟩ := h
    rfl
  · obtain ⟨p, dx, tp, ws, ln, t, rfl, O, hz, o⟩ := h
    refine ⟨_, pss_one (ps_ret (pe_meth (E := E) (pv 0) T.cl (mt T ("take_by", 9) (by decide)) GB hr bB .nil (passes_call (takes_of rfl rfl rfl rfl) fun _ _ _ _ h => h) (pa_cons (pe_glob (v := .ref (ga K "is_fix")) (by rfl) gF rfl) pa_nil))), ?_⟩
    refine ⟨_, rfl, p, dx, _, rfl, O.ob, rfl, p, dx, tp, ws, ln, t, rfl, O, fun e => ?_, fun h H1 Q1 s1 kq => ?_⟩
    · exact o.no (by rw [decide_eq_false (by omega)]; rfl)
    · refine ⟨_, rfl, .inl ⟨_, rfl, hz _ (getD_mem h), fun H2 s2 => kq _ H2 s2 ?_⟩⟩
      have o2 := (o.same s1).same s2
      rw [decide_eq_true h, Bool.true_and] at o2
      exact o2
/-! take_number -/
/-- number_of tells v of the word x -/
structure NumAt (x : Str) (lo hi : Int) (v : V) : Prop where
  g1 : lo.natAbs.log2 < 1920
  g2 : hi.natAbs.log2 < 1920
  g3 : lenS lo ≤ 1000000
  g4 : lenS hi ≤ 1000000
  x1 : x.length ≤ 1000000
  x2 : (digs x).length ≤ 1000000
  cs : (plainB x = false ∧ v = .non) ∨ (plainB x = true ∧ mxL lo hi < (x.length : Int) ∧ v = .non) ∨ (plainB x = true ∧ (x.length : Int) ≤ mxL lo hi ∧ x.length ≤ 640 ∧ ∃ n, PySem.intText? x = some n ∧ v = inB lo hi n)
def spTNum (K : PySem.W.Frag) : Sp := fun vs H Q E => ∃ p dx tp ws ln t lo hi v, vs = [.ref p, .int lo, .int hi] ∧ WO K H p dx tp ws ln t ∧ (t = ws.length → v = .non) ∧ (t < ws.length → NumAt (ws.getD t "") lo hi v) ∧ Out K H p dx tp ws ln t (!decide (v = .non)) v Q E
abbrev scTn_N : List Str := ["self", "least", "most", "number"]
theorem scTn : FnScope scTn_N ["self", "least", "most"] (defScope (wSt 8)) := ⟨rfl, rfl, rfl, by decide +kernel, rfl, by decide +kernel, by decide +kernel⟩
theorem blt3 (T : KF P w K mg base) : Blt3 mg := ⟨blt2 T, T.fr _ (by decide)⟩
theorem ok_tnum (T : KF P w K mg base) {fd : FuncData} (F : FunD K "take_number" "Words.take_number" (defArgs (wSt 8)) (defBody (wSt 8)) (defScope (wSt 8)) [] [] (mAd K "take_number") fd) : FnOk P w K mg base (L2.CX P w) 4 (mAd K "take_number") fd ["self", "least", "most"] (spTNum K) := by
  obtain ⟨fdN, FN, gN⟩ := T.tops ("number_of", 10) (by decide)
  obtain ⟨fdP, FP, gP⟩ := T.tops ("is_plain_number", 11) (by decide)
  have GN : FnOk P w K mg base CX0 2 (ga K "number_of") fdN ["word", "least", "most"] (spNum K) := ok_num FN (blt3 T) FP gP
  have bN : L2.Binds K fdN ["word", "least", "most"] [] := FunD.bindsN FN fun _ _ _ _ _ _ us hl => match us, hl with | [_, _, _], _ => rfl
  obtain ⟨nx, ⟨fS, GS, bS⟩, ⟨fR, GR, bR⟩⟩ := mc T
  refine F.ok scTn (fun vs H Q E h => ?_) (fun cdv A outer s H vs Q E hr h => ?_)
  · obtain ⟨p, dx, tp, ws, ln, t, lo, hi, v, rfl, _⟩ := h
    rfl
  · obtain ⟨p, dx, tp, ws, ln, t, lo, hi, v, rfl, O, h0, h1, o⟩ := h
    refine ⟨_, pss_cons (ps_set (i := 3) scTn.nd rfl (.inl rfl) pe_non) (pss_cons (ps_if (pt_val (pe_meth0R (E := E0) (pv 0) T.cl (mt T ("is_next", 5) (by decide)) nx (hr.mono (by decide)) pass0))
        (pss_one (ps_set (i := 3) scTn.nd rfl (.inl rfl) (pe_call (E := E0) GN (hr.mono (by decide)) (by rfl) gN FN.kp bN .nil pass0 (pa_cons (pe_ix ix_tup (pe_fld (pv 0) rfl) (pe_fld (pv 0) rfl) (fun _ _ => rfl)) (pa_cons (pv 1) (pa_cons (pv 2) pa_nil)))))) pss_nil)
      (pss_cons (ps_if (pt_cmpR op_isN (pv 3) pe_non (nomark _)) (pss_one (ps_expr (pe_meth0 (E := E) (pv 0) T.cl (mt T ("refuse", 11) (by decide)) GR hr bR .nil (passes_call (takes_of rfl rfl rfl rfl) fun _ _ _ _ h => h)))) pss_nil)
      (pss_cons (ps_expr (pe_meth0 (E := E0) (pv 0) T.cl (mt T ("step", 10) (by decide)) GS (hr.mono (by decide)) bS .nil pass0)) (pss_one (ps_ret (pv 3)))))), ?_⟩
    refine ⟨_, rfl, p, dx, _, rfl, O.ob, rfl, nxt_of [] O (by decide) fun H1 s1 => ⟨nextB ws t [], rfl, ?_⟩⟩
    have O1 := O.same s1
    by_cases h : t < ws.length
    · rw [show nextB ws t [] = true by unfold nextB; rw [decide_eq_true h]; rfl]
      refine if_posB rfl ⟨_, rfl, p, _, dx, _, _, rfl, O1.ob, T.cl, T.noP, rfl, _, rfl, p, _, dx, _, _, rfl, O1.ob, T.cl, T.noT, rfl, tp, _, _, .str (ws.getD t ""), rfl, rfl, SqT.of O1.ps, atI_nat ?_, .int lo, by simp [L2.start], .int hi, by simp [L2.start], ?_⟩
      · rw [List.getElem?_map, getD_at h]
        rfl
      · have n := h1 h
        refine ⟨_, lo, hi, rfl, n.g1, n.g2, n.g3, n.g4, .inr ⟨_, rfl, n.x1, n.x2, ?_⟩⟩
        rcases n.cs with ⟨e, rfl⟩ | ⟨e, l, rfl⟩ | ⟨e, l, l2, m, hm, rfl⟩
        case' inl => refine .inl ⟨e, ?_⟩
        case' inr.inl => refine .inr (.inl ⟨e, l, ?_⟩)
        case' inr.inr => refine .inr (.inr ⟨e, l, l2, m, hm, ?_⟩)
        all_goals
          refine ⟨_, by simp [L2.start]; rfl, rfl, _, rfl, ?_⟩
          refine ite2 (fun e2 => ?_) (fun e2 => ?_)
          · exact ⟨.ref p, by simp [L2.start], p, dx, _, rfl, O1.ob, rfl, p, dx, tp, ws, ln, t, rfl, O1, o.no (by rw [e2]; rfl) H1 s1⟩
          · exact ⟨.ref p, by simp [L2.start], p, dx, _, rfl, O1.ob, rfl, p, dx, tp, ws, ln, t, rfl, O1, h, fun H3 s3 O3 => ⟨_, by simp [L2.start], o.yes (by rw [eq_false_of_ne_true e2]; rfl) H3 (Same.two s1 s3) O3⟩⟩
    · rw [show nextB ws t [] = false by unfold nextB; rw [decide_eq_false h]; rfl]
      have := O.le
      have e := h0 (by omega)
      exact if_negB rfl ⟨.non, by simp [L2.start], rfl, _, rfl, if_posB (by decide) ⟨.ref p, by simp [L2.start], p, dx, _, rfl, O1.ob, rfl, p, dx, tp, ws, ln, t, rfl, O1, o.no (by rw [decide_eq_true e]; rfl) H1 s1⟩⟩
end
end K2

/-! text K2W3 -/
set_option Elab.async false
set_option linter.all false
set_option maxRecDepth 100000
set_option maxHeartbeats 1000000
namespace K2
open PySem PySem.Spec PyProof.Rows L2 RV EV He EF EI
/-! The class Words: len, bool, iter, spot, __init__. -/
def spLen (K : PySem.W.Frag) : Sp := fun vs H Q _ => ∃ p dx tp ws ln t, vs = [.ref p] ∧ WO K H p dx tp ws ln t ∧ Q (.int (ws.length : Nat)) H
def spBool (K : PySem.W.Frag) : Sp := fun vs H Q _ => ∃ p dx tp ws ln t, vs = [.ref p] ∧ WO K H p dx tp ws ln t ∧ Q (.bl (decide (t < ws.length))) H
def spSpot (K : PySem.W.Frag) : Sp := fun vs H Q _ => ∃ p dx tp ws ln t, vs = [.ref p] ∧ WO K H p dx tp ws ln t ∧ Q (.int (t : Nat)) H
section
variable {P : Program} {w : World} {K : PySem.W.Frag} {mg : Str → Option Value} {base : Heap}
theorem scLn : FnScope ["self"] ["self"] (defScope (wSt 2)) := ⟨rfl, rfl, rfl, by decide +kernel, rfl, by decide +kernel, by decide +kernel⟩
theorem ok_len (T : KF P w K mg base) {fd : FuncData} (F : FunD K "__len__" "Words.__len__" (defArgs (wSt 2)) (defBody (wSt 2)) (defScope (wSt 2)) [] [] (mAd K "__len__") fd) : FnOk P w K mg base CX0 1 (mAd K "__len__") fd ["self"] (spLen K) := by
  refine F.ok scLn (fun vs H Q E h => ?_) (fun cdv A outer s H vs Q E hr h => ?_)
  · obtain ⟨p, dx, tp, ws, ln, t, rfl, _⟩ := h
    rfl
  · obtain ⟨p, dx, tp, ws, ln, t, rfl, O, k⟩ := h
    refine ⟨_, PSs.nox (pss_one (ps_ret (pe_callB call_len_seq (by rfl) (T.fr "len" (by decide)) PySem.boot_len (pa_cons (pe_fld (pv 0) rfl) pa_nil)))), ?_⟩
    refine ⟨_, rfl, p, _, dx, _, _, rfl, O.ob, T.cl, T.noP, rfl, tp, _, rfl, .inr (SqT.of O.ps), ?_⟩
    rw [List.length_map]
    exact k
theorem scBo : FnScope ["self"] ["self"] (defScope (wSt 4)) := ⟨rfl, rfl, rfl, by decide +kernel, rfl, by decide +kernel, by decide +kernel⟩
theorem ok_bool (T : KF P w K mg base) {fd : FuncData} (F : FunD K "__bool__" "Words.__bool__" (defArgs (wSt 4)) (defBody (wSt 4)) (defScope (wSt 4)) [] [] (mAd K "__bool__") fd) : FnOk P w K mg base CX0 1 (mAd K "__bool__") fd ["self"] (spBool K) := by
  refine F.ok scBo (fun vs H Q E h => ?_) (fun cdv A outer s H vs Q E hr h => ?_)
  · obtain ⟨p, dx, tp, ws, ln, t, rfl, _⟩ := h
    rfl
  · obtain ⟨p, dx, tp, ws, ln, t, rfl, O, k⟩ := h
    refine ⟨_, PSs.nox (pss_one (ps_ret (pe_callTy call_bool1 (by rfl) (T.fr "bool" (by decide)) boot_T (pa_cons (pe_cmpR op_lt (pe_fld (pv 0) rfl) (pe_callB call_len_seq (by rfl) (T.fr "len" (by decide)) PySem.boot_len (pa_cons (pe_fld (pv 0) rfl) pa_nil)) (nomark _)) pa_nil)))), ?_⟩
    refine ⟨_, rfl, p, _, dx, _, _, rfl, O.ob, T.cl, T.noT, rfl, _, rfl, p, _, dx, _, _, rfl, O.ob, T.cl, T.noP, rfl, tp, _, rfl, .inr (SqT.of O.ps), _, _, rfl, rfl, .inr ⟨_, rfl, ?_⟩⟩
    rw [List.length_map]
    have e : decide ((t : Int) < (ws.length : Nat)) = decide (t < ws.length) := decide_eq_decide.mpr Int.ofNat_lt
    rw [e]
    exact k
theorem scSp : FnScope ["self"] ["self"] (defScope sSpot) := ⟨rfl, rfl, rfl, by decide +kernel, rfl, by decide +kernel, by decide +kernel⟩
theorem ok_spot (T : KF P w K mg base) {fd : FuncData} (F : FunD K "spot" "Words.spot" (defArgs sSpot) (defBody sSpot) (defScope sSpot) [] [] (gtAt K (gW K) "spot") fd) : FnOk P w K mg base CX0 1 (gtAt K (gW K) "spot") fd ["self"] (spSpot K) := by
  refine F.ok scSp (fun vs H Q E h => ?_) (fun cdv A outer s H vs Q E hr h => ?_)
  · obtain ⟨p, dx, tp, ws, ln, t, rfl, _⟩ := h
    rfl
  · obtain ⟨p, dx, tp, ws, ln, t, rfl, O, k⟩ := h
    exact ⟨_, PSs.nox (pss_one (ps_ret (pe_fld (pv 0) rfl))), _, rfl, p, _, dx, _, _, rfl, O.ob, T.cl, T.noT, rfl, k⟩
/-- iter(o) -/
theorem scIt : FnScope ["self"] ["self"] (defScope (wSt 3)) := ⟨rfl, rfl, rfl, by decide +kernel, rfl, by decide +kernel, by decide +kernel⟩
theorem gives_iter {X : Cx} (T : KF X.prog X.w X.K X.mg X.base) {H : Hp} {p dx tp : Addr} {ws : List Str} {ln : Int} {t : Nat} (O : WO X.K H p dx tp ws ln t) : Ow.Gives1 X 1 (mAd X.K "__iter__") p tp H := by
  obtain ⟨_, fd, F⟩ := T.meth ("__iter__", 3) (by decide)
  have b := FunD.bindsA (ps := ["self"]) F fun _ _ _ _ _ _ us hl => match us, hl with | [_], _ => rfl
  obtain ⟨oc, od, dV, kV, doc, pm, an, cdv, ct, osl, rfl, lk, hcd, hD, hK⟩ := F.ex
  intro s e0 hr hK
  refine LamX.run_ofS (N := ["self"]) (ps := ["self"]) (us := [.ref p]) (vs := [.ref p]) lk hcd scIt hr e0 (b s [.ref p] rfl) (.cons rfl .nil) rfl fun hr' => ?_
  refine ⟨_, PSs.nox (pss_one (ps_ret (pe_callB Ow.call_iterT (by rfl) (T.fr "iter" (by decide)) (by decide +kernel) (pa_cons (pe_fld (pv 0) rfl) pa_nil)))), ?_⟩
  exact ⟨_, rfl, p, _, dx, _, _, rfl, O.ob, T.cl, T.noP, rfl, tp, _, rfl, SqT.of O.ps, fun it n1 n2 => ⟨it, rfl, n1, n2, rfl⟩⟩
/-! __init__ -/
def spInit (K : PySem.W.Frag) : Sp := fun vs H Q E => ∃ p dx v ln, vs = [.ref p, v, .int ln] ∧ H p = some (.ins (gW K) dx []) ∧
  ((∃ t, TyX K H v (.type t) ∧ kitB t "str" = some false ∧ BadE K H E (.int ln) (.int 0)) ∨
   ∃ x, v = .str x ∧ x.length ≤ 1000000 ∧ (Txt.split x " ").length ≤ 1000 ∧ ∀ H' tp, Same2 H H' p → WO K H' p dx tp (Txt.split x " ") ln 0 → Q .non H')
abbrev scIn_N : List Str := ["self", "text", "line"]
theorem scIn : FnScope scIn_N ["self", "text", "line"] (defScope (wSt 0)) := ⟨rfl, rfl, rfl, by decide +kernel, rfl, by decide +kernel, by decide +kernel⟩
theorem ok_init (T : KF P w K mg base) {fd : FuncData} (F : FunD K "__init__" "Words.__init__" (defArgs (wSt 0)) (defBody (wSt 0)) (defScope (wSt 0)) [.int 0] [] (mAd K "__init__") fd) : FnOk P w K mg base (L2.CX P w) 3 (mAd K "__init__") fd ["self", "text", "line"] (spInit K) := by
  refine F.ok scIn (fun vs H Q E h => ?_) (fun cdv A outer s H vs Q E hr h => ?_)
  · obtain ⟨p, dx, v, ln, rfl, _⟩ := h
    rfl
  · obtain ⟨p, dx, v, ln, rfl, O, k⟩ := h
    refine ⟨_, pss_cons (ps_if (pt_not (pt_val (pe_callB call_isi (by rfl) (T.fr "isinstance" (by decide)) PyProof.Rows.boot_isinstance (pa_cons (pv 1) (pa_cons (pe_bltn (v := .ty "str") (by rfl) (T.fr "str" (by decide)) boot_T rfl) pa_nil)))))
        (pss_one (ps_bad T hr rfl (takes_of rfl rfl rfl rfl) (by rfl) (pv 2) pe_int)) pss_nil)
      (pss_cons (ps_fld (pv 0) (pe_callTy call_tuple_of (by rfl) (T.fr "tuple" (by decide)) boot_T (pa_cons (pe_split (pv 1) pe_str) pa_nil)) rfl)
      (pss_cons (ps_fld (pv 0) (pv 2) rfl) (pss_one (ps_fld (pv 0) pe_int rfl)))), ?_⟩
    rcases k with ⟨t, ht, e, k⟩ | ⟨x, rfl, hz, hl, k⟩
    · refine ⟨v, rfl, v, .ty "str", _, _, false, rfl, .ty _, ht, kit_ty e, false, rfl, if_posB rfl ⟨_, rfl, mkb k⟩⟩
    · refine ⟨.str x, rfl, .str x, .ty "str", _, _, true, rfl, .ty _, .base (.str x), kit_ty (by decide +kernel), true, rfl, if_negB rfl ?_⟩
      refine ⟨_, rfl, ⟨_, rfl⟩, x, " ", rfl, rfl, by decide +kernel, by rw [sizeLine_eq]; omega, fun l nl => ⟨l, _, rfl, .inl ⟨SqL.of upd_same, fun tp nt => ?_⟩⟩⟩
      have n1 : p ≠ l := ne_of_none O nl
      have O1 : upd H l (.lst ((Txt.split x " ").map V.str)) p = some (.ins (gW K) dx []) := by rw [upd_ne n1]; exact O
      have n2 : p ≠ tp := ne_of_none O1 nt
      have O2 : upd (upd H l (.lst ((Txt.split x " ").map V.str))) tp (.tup ((Txt.split x " ").map V.str)) p = some (.ins (gW K) dx []) := by rw [upd_ne n2]; exact O1
      refine ⟨_, rfl, p, gW K, dx, _, rfl, O2, T.cl, T.noP, by show 0 < 1000; decide, ?_⟩
      refine ⟨_, rfl, _, rfl, p, gW K, dx, _, rfl, upd_same, T.cl, T.noL, by show 1 < 1000; decide, ?_⟩
      refine ⟨_, rfl, p, gW K, dx, _, rfl, upd_same, T.cl, T.noT, by show 2 < 1000; decide, ?_⟩
      refine k _ tp (fun c o hc e => ?_) ⟨by rw [upd_same]; rfl, ?_, Nat.zero_le _, hl⟩
      · rw [upd_ne hc, upd_ne hc, upd_ne hc]
        exact ((same_new nl).trans (same_new nt)) c o e
      · rw [upd_ne (Ne.symm n2), upd_ne (Ne.symm n2), upd_ne (Ne.symm n2)]
        exact upd_same
end
end K2

/-! text K2Heard -/
set_option Elab.async false
set_option linter.all false
set_option maxRecDepth 100000
set_option maxHeartbeats 1000000
namespace Hd
open PySem PySem.Spec PyProof.Rows L2
/-- a caught error at a of the class at C, with the fields fs in its dict at d -/
structure ErF (H : Hp) (a C d : Addr) (fs : List (Str × V)) : Prop where
  ob : H a = some (ExF (.ref C) (some d) a)
  dc : H d = some (.xd fs)
theorem ErF.inst {X : Cx} {pins : List (Addr × Obj)} {σ : L2.St} {H : Hp} {s : Shared} {a C d : Addr} {fs : List (Str × V)} (I : Inv X pins σ H s) (r : ErF H a C d fs) :
    ∃ (ox od : Obj) (mA : Str → Option Value), PySem.W.InstAt s.heap a ox C (some od) ∧ (∀ n, PySem.W.lookIn n od = some (mA n)) ∧ ∀ n, RelO (fs.lookup n) (mA n) := by
  obtain ⟨oe, vs, ha, hz, hd⟩ := exF_at I.hok r.ob
  have hx : ObjOk X.prog X.w H s.heap d (.xd fs) := I.hok d _ r.dc
  obtain ⟨mA, hns, rel⟩ := hx
  obtain ⟨od, ho, hl⟩ := lookIn_ns hns
  exact ⟨oe, od, mA, ⟨ha, hz.1, by unfold PySem.W.notCls; rw [hd] <;> rfl, by rw [hz.2]; exact ho⟩, hl, rel⟩
/-- e.f -/
def tFF (K : PySem.W.Frag) (te : TE) (f : Str) : TE := fun σ H Q => te σ H fun x H1 => ∃ a C d fs v, x = .ref a ∧ ErF H1 a C d fs ∧ XfC K C ∧ PySem.W.findIn K (.ref C) f = some none ∧ fs.lookup f = some v ∧ Q v H1
theorem pe_ff {X : Cx} {e : Expr} {te : TE} {pos : Pos} {f : Str} (he : PE X e te) (hb : attributeBase e f X.env (eval e X.env) = eval e X.env := by rfl) : PE X (.Attribute e f pos) (tFF X.K te f) := by
  refine ⟨fun pins s σ H Q I h => attr_of hb (thn (he.run pins s σ H _ I h) fun u s1 hh => ?_)⟩
  obtain ⟨x, H1, I1, rx, a, C, d, fs, v, rfl, r, T, hno, l, q⟩ := hh
  obtain rfl : u = Value.ref a := rx
  obtain ⟨ox, od, mA, J, hl, rel⟩ := r.inst I1
  obtain ⟨z, hz, rz⟩ := RelO.some_of (v := v) (o := mA f) (by rw [← l]; exact rel f)
  exact HandSPX.exc_get I1.kIn J T.ga T.gg T.exC (PySem.W.findObj_own T.hdC hno rfl (by rw [hl, hz])) (handed_of rz) ⟨v, H1, I1.tok _, rz, q⟩
/-- isinstance(e, c) -/
def rIsF (K : PySem.W.Frag) : List V → Hp → VK → Prop := fun xs H Q => ∃ (a C d : Addr) (fs : List (Str × V)) (c : V) (u : Value) (b : Bool), xs = [.ref a, c] ∧ ErF H a C d fs ∧ L2.ExcC K C ∧ ClsV c u ∧ PySem.W.kitOne K (.ref C) u = some b ∧ Q (.bl b) H
theorem call_isF {X : Cx} : CallR X (.builtin "isinstance") (rIsF X.K) := by
  intro pins s σ H xs us Q I r h
  obtain ⟨a, C, d, fs, c, u, b, rfl, hi, T, k, e, q⟩ := h
  obtain ⟨u1, u2, rfl, r1, r2⟩ := vals2 r
  have e2 := k.eq r2
  subst e2
  cases (show u1 = Value.ref a from r1)
  have hcl : (PySem.W.clsIn X.K C).isSome = true := by
    obtain ⟨cd, hc, _⟩ := PySem.W.any_some T.hd
    rw [hc]
    rfl
  obtain ⟨ox, od, mA, J, _⟩ := hi.inst I
  exact PySem.W.kia_one (PySem.W.kitx_exc hcl T.hg T.hk T.hs T.ha T.hn T.ht T.hm) I.kIn J e (fun z => nomatch z) fun tk => ⟨.bl b, H, I.tok tk, rfl, q⟩
end Hd
namespace K2
open PySem PySem.Spec PyProof.Rows L2 RV EV He EF EI Hd LamX
theorem pss_of {X : Cx} {b : List Stmt} {t' : TS} (f : ∀ D σ H, t' D σ H → ∃ t, PSs X b t ∧ t D σ H) : PSs X b t' :=
  ⟨fun pins s σ H D I h => let ⟨_, p, q⟩ := f D σ H h; p.run pins s σ H D I q⟩
theorem takes_len {X : Cx} {W : WX} (tk : Takes X W) : Takes X (fun c d σ H => σ.length = X.N.length → W c d σ H) := fun u s' ⟨a, B, sI, pins, σ, H, cls, d, e, I, nb, up, sky, na, os, ag, wh⟩ =>
  tk u s' ⟨a, B, sI, pins, σ, H, cls, d, e, I, nb, up, sky, na, os, ag, wh I.len⟩
abbrev sHeard : Stmt := top 20
abbrev scHd_N : List Str := ["_law_ask", "_law_raised", "error"]
theorem scHd : FnScope scHd_N ["_law_ask"] (defScope sHeard) := ⟨rfl, rfl, rfl, by decide +kernel, rfl, by decide +kernel, by decide +kernel⟩
/-- what _law_heard makes of what it is given: a list of the answer, or the fields of a BadText -/
def TTh (K : PySem.W.Frag) : (XK → Hp → VK → Prop) → Hp → VK → Prop := fun tl H Q =>
  tl (fun cls d H1 => ∃ (dd : Addr) (ln wd : V), cls = .ref (gT K) ∧ d = some dd ∧ H1 dd = some (.xd [("word", wd), ("line", ln)]) ∧ ∀ r H2, Same H1 H2 → H2 r = some (.tup [ln, wd]) → Q (.ref r) H2) H
    fun v H1 => [v].length ≤ sizeLine ∧ ∀ l, H1 l = none → l ≠ sysModules → Q (.ref l) (upd H1 l (.lst [v]))
theorem heard_gives {X : Cx} {q : Str} {f19 : Addr} {cdg : Value} (T : KF X.prog X.w X.K X.mg X.base) : GivesTo X scHd_N "_law_heard" (defScope sHeard) f19 cdg (defBody sHeard) "_law_ask" q (TTh X.K) := by
  intro f c' s H Q tl act hc h
  refine ⟨_, pss_cons (ps_set (i := 1) scHd.nd rfl (.inl rfl) pe_non) (pss_cons (ps_try_hold (X := (cxOf C8.CX0 X.prog X.w X.K X.mg X.base scHd_N "_law_heard" (defScope sHeard) f19 cdg X.A X.stack s H C8.E0).nox) (c := .ref (ga X.K "EditionError")) (i := 2)
      (tb := fun W D σ H => ∃ Ech : XK, (∀ cls d σ' H', σ'.length = scHd_N.length → Ech cls d H' → W cls d σ' H') ∧ σ[0]? = some (some (.ref f)) ∧ H c' = some (CodeO c' q) ∧ tl Ech H fun v H1 => [v].length ≤ sizeLine ∧ ∀ l, H1 l = none → l ≠ sysModules → D.rt (.ref l) (upd H1 l (.lst [v])))
      rfl rfl scHd.nd rfl rfl ⟨by rfl, by decide, .inl (T.gl ("EditionError", []) (by decide))⟩ rfl L2.takes0 (fun W pn xe tk _ => ?_) (fun a oe cls d pn _ _ => pss_one (ps_set (i := 1) scHd.nd rfl (.inl rfl) (pv 2))))
    (pss_one (ps_ret (pe_ifExp (pt_val (pe_callB call_isF (by rfl) (T.fr "isinstance" (by decide)) PyProof.Rows.boot_isinstance (pa_cons (pv 1) (pa_cons (pe_glob (v := .ref (gT X.K)) (by rfl) T.tx.gl rfl) pa_nil))))
      (pe_tup (pa_cons (pe_ff (pv 1)) (pa_cons (pe_ff (pv 1)) pa_nil))) pe_str)))), ?_⟩
  · refine pss_of fun D σ H' h' => ?_
    obtain ⟨Ech, hW, h1, h2, h3⟩ := h'
    exact ⟨_, pss_one (ps_ret (pe_lst1 (pa_cons (act _ pn xe Ech _ _ (takes_len tk) fun cls d σ' H' e hl => hW cls d σ' H' hl e) pa_nil))), h1, h2, h3⟩
  · refine ⟨_, fun cls d σ' H' hl e => ?_, rfl, hc, h⟩
    obtain ⟨dd, ln, wd, rfl, rfl, hd, k⟩ := e
    refine ⟨true, T.xE, (fun z => nomatch z), fun _ a na => ?_⟩
    have hl : σ'.length = 3 := hl
    have n1 : dd ≠ a := ne_of_none hd na
    have r : ErF (upd H' a (ExF (.ref (gT X.K)) (some dd) a)) a (gT X.K) dd [("word", wd), ("line", ln)] := ⟨upd_same, by rw [upd_ne n1]; exact hd⟩
    have E := T.ek ("BadText", bT) (by decide)
    have g1 : (((σ'.set 2 (some (V.ref a))).set 1 (some (V.ref a))).set 2 none)[1]? = some (some (V.ref a)) := by simp [List.getElem?_set, hl]
    refine ⟨.ref a, by simp [List.getElem?_set, hl], ?_⟩
    refine ⟨.ref a, g1, a, gT X.K, dd, _, .ref (gT X.K), _, true, rfl, r, E.ex, .own _, (kit E E).trans (by simp), true, rfl, if_posB rfl ?_⟩
    refine ⟨.ref a, g1, a, gT X.K, dd, _, ln, rfl, r, E.xf, T.tx.no, rfl, .ref a, g1, a, gT X.K, dd, _, wd, rfl, r, E.xf, T.tx.no2, rfl, by show 2 ≤ sizeLine; decide, fun tp nt => ?_⟩
    exact k tp _ ((same_new na).trans (same_new nt)) upd_same
end K2

/-! text K2Two -/
set_option Elab.async false
set_option linter.all false
set_option maxRecDepth 100000
set_option maxHeartbeats 1000000
/-! try: .. except X: .. except Y as n: .. : each error of the body is one of the two. -/
namespace Hd
open PySem PySem.Spec PyProof.Rows L2
def wTwo (K : PySem.W.Frag) (c c2 : Value) (i : Nat) (ts : TS) (ts2 : Addr → Value → Option Addr → TS) (D : Ends) : WX := fun cls d σ H =>
  (PySem.W.exmOne K cls c = some true ∧ ts { nx := D.nx, rt := D.rt } σ H) ∨
  (PySem.W.exmOne K cls c = some false ∧ PySem.W.exmOne K cls c2 = some true ∧ ∀ a, H a = none → ts2 a cls d { nx := fun σ6 H6 => D.nx (σ6.set i none) H6, rt := D.rt } (σ.set i (some (.ref a))) H)
section
variable {X : Cx} {x y n : Str} {c c2 : Value} {i : Nat} {body suite suite2 : List Stmt} {b₀ b₂ : Stmt} {np np2 pos pos' pos2 : Pos} {tb : WX → TS} {ts : TS} {ts2 : Addr → Value → Option Addr → TS}
theorem ps_try_two (hs : X.stack = X.env :: X.outer) (hf : X.env.frame = some X.env.locals) (hN : X.N.Nodup) (hi : X.N[i]? = some n) (hln : X.env.kindOf n = some .local) (hc : Names X x c) (hc2 : Names X y c2)
    (hb : ∀ (W : WX) (pn : List (Addr × Obj)) (xe : Value → Shared → Prop), Takes (X.tr pn xe) W → PassesOwn (model X.prog X.w) X.A X.env xe → PSs (X.tr pn xe) body (tb W))
    (hsu : ∀ (a : Addr) (oe : Obj) (pn : List (Addr × Obj)), PSs (X.suite a ((a, oe) :: pn)) (b₀ :: suite) ts)
    (hsu2 : ∀ (a : Addr) (oe : Obj) (cls : Value) (d : Option Addr) (pn : List (Addr × Obj)), Zc cls d oe → (∃ vs, oe.data = .fields vs) → PSs (X.suite a ((a, oe) :: pn)) (b₂ :: suite2) (ts2 a cls d)) :
    PS X (.Try body [.ExceptHandler (some (.Name x np)) none (b₀ :: suite) pos', .ExceptHandler (some (.Name y np2)) (some n) (b₂ :: suite2) pos2] [] [] pos) (fun D σ H => tb (wTwo X.K c c2 i ts ts2 D) D σ H) := by
  constructor
  intro pins s σ H D I h
  have ok := I.ok
  have fr : X.A.frames = some (X.env :: X.outer) := ok.frames.trans (congrArg some hs)
  refine wpAny_Try_except (wpAny_mono ((hb _ (X.pn ++ pins) _ ?takes PassesOwn.looking).run [] s σ H D (I.toTry _) h) (fun fl t ht => ?_) fun _ _ z => z)
  case takes =>
    intro u t out
    obtain ⟨a, B, t0, ps0, σ0, H0, cls, d, rfl, J, nb, up, sky, na, os, ag, wish⟩ := out
    have J0 : Inv X pins σ0 H0 t0 := J.ofTry ok
    rw [hs] at sky
    refine Sky.land Zc.steady fr hf sky fun g1 fl1 up1 => ?_
    have L1 : Inv X pins σ0 H0 { t with heap := g1 } := J0.landed nb fl1.1 (up.trans up1) os ag
    obtain ⟨o1, us1, e1, z1, d1⟩ := fl1.there
    have offStack : a ∉ frs (X.env :: X.outer) := fun hm => by
      obtain ⟨_, o', e', hnf⟩ := fl1.2.2.1.mem hm
      rw [e1] at e'
      cases e'
      exact hnf _ d1
    have offL : a ≠ X.env.locals := fun q => offStack (List.mem_filterMap.mpr ⟨X.env, List.mem_cons_self, hf.trans (congrArg some q.symm)⟩)
    have offF : a ∉ X.fs := fun hm => let ⟨e, he, q⟩ := List.mem_filterMap.mp hm; offStack (List.mem_filterMap.mpr ⟨e, List.mem_cons_of_mem _ he, q⟩)
    have S1 := L1.suite e1 d1 na offL offF
    have LT : PySem.W.Looks (model X.prog X.w) g1 (typeOf (.ref a)) cls := fun _ _ _ r k q => wpAny_typeOf_ref (k _ _ e1) (by rw [z1.1]; exact q)
    have asks : ∀ {v : Str} {cv : Value} {vp : Pos}, Names X v cv → ∀ {Q E : Value → Shared → Prop}, Q cv { t with heap := g1 } → wpAny (model X.prog X.w) (X.A.mark (some (.ref a))) (eval (.Name v vp) X.env) Q E { t with heap := g1 } := fun {v cv vp} hv {Q E} q => by
      obtain ⟨hg, hdbg, hm | ⟨hm, hw, hnn⟩⟩ := hv
      · exact ld_glob (X := X.suite a ((a, o1) :: (X.pn ++ pins))) S1 hg hm q hdbg
      · exact ld_blt (X := X.suite a ((a, o1) :: (X.pn ++ pins))) S1 hg hm hw q hnn hdbg
    rcases wish with ⟨m1, q1⟩ | ⟨m1, m2, q2⟩
    · refine wpAny_handleBy_cons (codeAny_handlers_test (asks hc ((PySem.W.exm_one (M := model X.prog X.w) L1.kIn LT m1).here ?_))) (by intro q; cases q)
      refine codeAny_handlers_suite (HandSPX.lands_againZ fl1 fun g2 fl2 up2 => ?_)
      have L2' : Inv X pins σ0 H0 { t with heap := g2 } := J0.landed nb fl2.1 ((up.trans up1).trans up2) os ag
      obtain ⟨o2, us2, e2, z2, d2⟩ := fl2.there
      have S2 := L2'.suite e2 d2 na offL offF
      refine wpAny_mono ((hsu a o2 (X.pn ++ pins)).run [] _ _ H0 _ S2 q1) (fun fl6 t6 h6 => ?_) (fun _ _ z => z.elim)
      cases fl6 with
      | next => obtain ⟨σ6, H6, S6, q6⟩ := h6; exact ⟨σ6, H6, S6.unsuite (pins := pins) ok, q6⟩
      | brk => obtain ⟨_, _, _, q6⟩ := h6; exact q6.elim
      | cont => obtain ⟨_, _, _, q6⟩ := h6; exact q6.elim
      | ret u => obtain ⟨v6, σ6, H6, S6, r6, q6⟩ := h6; exact ⟨v6, σ6, H6, S6.unsuite (pins := pins) ok, r6, q6⟩
    · refine wpAny_handleBy_cons (codeAny_handlers_test (asks hc ((PySem.W.exm_one (M := model X.prog X.w) L1.kIn LT m1).here ?_))) (by intro q; cases q)
      refine wpAny_handleBy_cons (codeAny_handlers_test (asks hc2 ((PySem.W.exm_one (M := model X.prog X.w) L1.kIn LT m2).here ?_))) (by intro q; cases q)
      refine codeAny_handlers_suite_as (HandSPX.lands_againZ fl1 fun g2 fl2 up2 => ?_)
      have L2' : Inv X pins σ0 H0 { t with heap := g2 } := J0.landed nb fl2.1 ((up.trans up1).trans up2) os ag
      obtain ⟨o2, us2, e2, z2, d2⟩ := fl2.there
      have S2 := L2'.suite e2 d2 na offL offF
      refine store_ok (X := X.suite a ((a, o2) :: (X.pn ++ pins))) (v := .ref a) S2 hN hi (.inl hln) rfl (fun t5 S5 => ?_) (.inr hln)
      refine wpAny_mono ((hsu2 a o2 cls d (X.pn ++ pins) z2 ⟨_, d2⟩).run [] t5 _ H0 _ S5 (q2 a na)) (fun fl6 t6 h6 => ?_) (fun _ _ z => z.elim)
      cases fl6 with
      | next =>
        obtain ⟨σ6, H6, S6, q6⟩ := h6
        exact gone_ok (S6.unsuite (pins := pins) ok) hN hi hln fun t7 J7 => ⟨_, _, J7, q6⟩
      | brk => obtain ⟨_, _, _, q6⟩ := h6; exact q6.elim
      | cont => obtain ⟨_, _, _, q6⟩ := h6; exact q6.elim
      | ret u =>
        obtain ⟨v6, σ6, H6, S6, r6, q6⟩ := h6
        exact gone_ok (S6.unsuite (pins := pins) ok) hN hi hln fun t7 J7 => ⟨v6, _, H6, J7, r6, q6⟩
  · cases fl with
    | next =>
      obtain ⟨σ1, H1, J1, q⟩ := ht
      exact wpAny_execs_nil ⟨σ1, H1, J1.ofTry ok, q⟩
    | brk =>
      obtain ⟨σ1, H1, J1, q⟩ := ht
      exact ⟨σ1, H1, J1.ofTry ok, q⟩
    | cont =>
      obtain ⟨σ1, H1, J1, q⟩ := ht
      exact ⟨σ1, H1, J1.ofTry ok, q⟩
    | ret u =>
      obtain ⟨v, σ1, H1, J1, r1, q⟩ := ht
      exact ⟨v, σ1, H1, J1.ofTry ok, r1, q⟩
end
end Hd

/-! text K2Lost -/
set_option Elab.async false
set_option linter.all false
set_option maxRecDepth 100000
set_option maxHeartbeats 1000000
namespace K2
open PySem PySem.Spec PyProof.Rows L2 RV EV He EF EI Hd
abbrev sLost : Stmt := top 22
abbrev sLR : Stmt := top 23
def spLost : Sp := fun vs H _ E => ∃ x : Str, vs = [.str x] ∧ x.length ≤ 1000000 ∧ ∀ d H', Same H H' → E (.type "KeyError") d H'
section
variable {P : Program} {w : World} {K : PySem.W.Frag} {mg : Str → Option Value} {base : Heap} {f : Addr} {fd : FuncData}
theorem scLo : FnScope ["_law_word"] ["_law_word"] (defScope sLost) := ⟨rfl, rfl, rfl, by decide +kernel, rfl, by decide +kernel, by decide +kernel⟩
theorem ok_lost (F : FnP K "_law_lost" sLost f fd) : FnOk P w K mg base (L2.CX P w) 1 f fd ["_law_word"] spLost := by
  refine F.ok scLo (fun vs H Q E h => ?_) (fun cdv A outer s H vs Q E hr h => ?_)
  · obtain ⟨x, rfl, _⟩ := h
    rfl
  · obtain ⟨x, rfl, hz, k⟩ := h
    refine ⟨_, pss_one (ps_ret (pe_dgetX rfl (hu_of hr) (takes_of rfl rfl rfl rfl) (pe_disp (pps_cons pe_str pe_int pps_nil) (by rfl) (by rfl) (fun z => by cases z) (by decide)) (pe_op op_add_str (pv 0) pe_str) (fun _ _ => rfl))), ?_⟩
    have ne : ¬ (Sum.inr ("" : Str) : Key) = Sum.inr (x ++ "?") := fun z => by
      have h := congrArg Str.length (Sum.inr.inj z)
      rw [Str.length_append] at h
      have h1 : ("" : Str).length = 0 := by decide
      have h2 : ("?" : Str).length = 1 := by decide
      omega
    have hq : x.length + ("?" : Str).length ≤ sizeLine := by
      have h2 : ("?" : Str).length = 1 := by decide
      rw [sizeLine_eq]
      omega
    refine fun p np => ⟨upd_same, [(Sum.inr "", .int 0)], rfl, by decide, .str x, rfl, x, "?", rfl, rfl, hq, p, none, rfl, .inl ⟨_, Sum.inr (x ++ "?"), .inl upd_same, rfl, ?_⟩, (fun v z => nomatch z), fun _ d => k d _ ?_⟩
    · exact (valV_neg (p := ((Sum.inr ("" : Str) : Key), V.int 0)) (r := []) ne).symm
    · intro c o e
      rw [upd_ne (ne_of_none e np), upd_ne (ne_of_none e np)]
      exact e
theorem lay_pair (a b : Int) : (PyData.tuple [.int a, .int b]).canLay0 = true := by simp [PyData.canLay0, PyData.canLayAll0]
theorem shaped_pair (a b : Int) : SeqAt.shaped (.tuple [.int a, .int b]) = true := by simp [SeqAt.shaped, PyData.canLay0, PyData.canLayAll0, PyData.depth, PyData.depthAll]
/-! _law_lost_right -/
/-- o.m(e, ..), what it raises being wished for at the slots -/
def tMethAt (C : Addr) (m : Str) (sp : Sp) (E : L2.St → XK) (ta : TE) (t : TA) : TE := fun σ H Q => ta σ H fun x H1 => ∃ a dx fs, x = .ref a ∧ H1 a = some (.ins C dx fs) ∧ fs.lookup m = none ∧ t σ H1 fun vs H2 => sp (x :: vs) H2 Q (E σ)
theorem pe_methAt {X : Cx} {CX : CXT} {k : Nat} {C g : Addr} {gd : FuncData} {ps : List Str} {m : Str} {sp : Sp} {E : L2.St → XK} {o e : Expr} {es : List Expr} {ta : TE} {t : TA} {apos pos : Pos} {pl : Sem Bool} (he : PE X o ta) (c : Cls X.K C) (hm : Meth X.K C m g) (G : FnOk X.prog X.w X.K X.mg X.base CX k g gd ps sp) (hr : Room k X.A)
    (hb : L2.Binds X.K gd ps []) (hx : ∀ σ, PassesAt CX X σ (E σ)) (ha : PA X (e :: es) t)
    (hst : starEach (e :: es) X.env = (false, eval e X.env) :: starEach es X.env := by rfl) (hpl : (backTo pos (starEach es X.env)).any (·.1) = false := by rfl)
    (ht : eval (.Call (.Attribute o m apos) (e :: es) [] pos) X.env = (do
      let u ← eval o X.env
      standAt apos.atName
      let (g, one) ← holding [u] (getMethod u m pl)
      callWith pos g one (backTo pos (starEach (e :: es) X.env)) (backToKw pos (keywordEach [] X.env))) := by rfl) :
    PE X (.Call (.Attribute o m apos) (e :: es) [] pos) (tMethAt C m sp E ta t) := by
  refine ⟨fun pins s σ H Q I h => PySem.W.methodCall_KW (pl := pl) (thn (he.run pins s σ H _ I h) fun v s1 hv => ?_) ht⟩
  obtain ⟨x, H1, I1, rx, a, dx, fs, rfl, ea, l, q⟩ := hv
  obtain rfl : v = Value.ref a := rx
  refine getmeth_ok I1 ea c hm l (PySem.W.callWith_K (first := [.ref a]) (h₀ := X.base) I.ok.mod.kin hm.kp (thn (ha.run pos pins s1 σ H1 _ I1 q) fun us s2 hu => ?_) hst hpl)
  obtain ⟨vs, H2, I2, r, q2⟩ := hu
  exact ⟨I2.kIn, run_fnS (us := .ref a :: us) (vs := .ref a :: vs) G hr hb (hx σ) I2 (.cons rfl r) q2⟩
def spLR (K : PySem.W.Frag) : Sp := fun vs H Q _ => ∃ p dx tp ws ln t, vs = [.ref p, .int (t : Nat), .int (ws.length : Nat), .int ln] ∧ WO K H p dx tp ws ln t ∧ (∀ x ∈ ws, x.length ≤ 1000000) ∧ ∀ H', Same H H' → Q (.bl true) H'
abbrev scLR_N : List Str := ["_law_words", "_law_spot", "_law_many", "_law_line", "_law_told", "error"]
theorem scLR : FnScope scLR_N ["_law_words", "_law_spot", "_law_many", "_law_line"] (defScope sLR) := ⟨rfl, rfl, rfl, by decide +kernel, rfl, by decide +kernel, by decide +kernel⟩
theorem ok_lr (T : KF P w K mg base) (F : FnP K "_law_lost_right" sLR f fd) : FnOk P w K mg base CX0 5 f fd ["_law_words", "_law_spot", "_law_many", "_law_line"] (spLR K) := by
  obtain ⟨fdL, FL, gL⟩ := T.tops ("_law_lost", 22) (by decide)
  have GL : FnOk P w K mg base (L2.CX P w) 1 (ga K "_law_lost") fdL ["_law_word"] spLost := ok_lost FL
  have bL : L2.Binds K fdL ["_law_word"] [] := FunD.bindsN FL fun _ _ _ _ _ _ us hl => match us, hl with | [_], _ => rfl
  obtain ⟨_, fB, FB⟩ := T.meth ("take_by", 9) (by decide)
  have GB := ok_by T FB GL (by decide) FL.kp bL
  have bB : L2.Binds K fB ["self", "rule"] [] := FunD.bindsN FB fun _ _ _ _ _ _ us hl => match us, hl with | [_, _], _ => rfl
  refine F.ok scLR (fun vs H Q E h => ?_) (fun cdv A outer s H vs Q E hr h => ?_)
  · obtain ⟨p, dx, tp, ws, ln, t, rfl, _⟩ := h
    rfl
  · obtain ⟨p, dx, tp, ws, ln, t, rfl, O, hz, k⟩ := h
    have hu := hr.units
    refine ⟨_, PSs.nox (pss_cons (ps_set (i := 4) scLR.nd rfl (.inl rfl) pe_str) (pss_cons (ps_try_two (c := .type "KeyError") (c2 := .ref (gT K)) (i := 5)
        (tb := fun W => tDrop (tMethAt (gW K) "take_by" (spBy K (ga K "_law_lost") spLost) (WE W) (tVar 0) (tCons (tC (.ref (ga K "_law_lost"))) tNil)))
        rfl rfl scLR.nd rfl rfl ⟨by rfl, by decide, .inr ⟨T.fr "KeyError" (by decide), by decide +kernel, by decide⟩⟩ ⟨by rfl, by decide, .inl T.tx.gl⟩
        (fun W pn xe tk _ => pss_one (ps_expr (pe_methAt (pv 0) T.cl (mt T ("take_by", 9) (by decide)) GB hr bB (fun σ => passAt tk σ) (pa_cons (pe_glob (v := .ref (ga K "_law_lost")) (by rfl) gL rfl) pa_nil))))
        (fun a oe pn => pss_one (ps_set (i := 4) scLR.nd rfl (.inl rfl) pe_str))
        (fun a oe cls d pn hz hf => pss_one (ps_ret (pe_and (pe_cmpR op_eq (pv 1) (pv 2) (nomark _)) (pe_one (pe_cmpR (show OpR _ (compareOp .Eq) (rEqD K) from op_eqD (X := (cxOf CX0 P w K mg base scLR_N "_law_lost_right" (defScope sLR) f cdv A outer s H E).nox.suite a ((a, oe) :: pn)) hu) (pe_tup (pa_cons (pe_xf (T.ek ("BadText", bT) (by decide)).xf T.tx.no hz hf (pv 5)) (pa_cons (pe_xf (T.ek ("BadText", bT) (by decide)).xf T.tx.no2 hz hf (pv 5)) pa_nil))) (pe_tup (pa_cons (pv 3) (pa_cons (pv 1) pa_nil))) (nomark _)))))))
      (pss_one (ps_ret (pe_and (pe_cmpR op_eq (pv 4) pe_str (nomark _)) (pe_one (pe_cmpR op_lt (pv 1) (pv 2) (nomark _)))))))), ?_⟩
    have xKE : PySem.W.exmOne K (.type "KeyError") (.type "KeyError") = some true := by
      unfold PySem.W.exmOne
      rfl
    have O1 := O
    refine ⟨.ref p, rfl, p, dx, _, rfl, O.ob, rfl, p, dx, tp, ws, ln, t, rfl, O, fun e H' s' d nd => ?_, fun h H1 Q1 s1 kq => ⟨_, rfl, hz _ (getD_mem h), fun d H2 s2 => ?_⟩⟩
    · refine .inr ⟨T.xK, T.xT, fun a na => ?_⟩
      refine ⟨.int t, by simp [L2.start], .int (ws.length : Nat), by simp [L2.start], rfl, _, rfl, if_posB (by rw [e]; exact decide_eq_true rfl) ?_⟩
      have nd' : upd H' d (.xd [("word", .int t), ("line", .int ln)]) d = some (.xd [("word", .int t), ("line", .int ln)]) := upd_same
      refine ⟨.ref a, by simp [L2.start], rfl, rfl, d, _, .int ln, rfl, nd', rfl, .ref a, by simp [L2.start], rfl, rfl, d, _, .int t, rfl, nd', rfl, by show 2 ≤ sizeLine; decide, fun q1 nq1 => ?_⟩
      refine ⟨.int ln, by simp [L2.start], .int t, by simp [L2.start], by show 2 ≤ sizeLine; decide, fun q2 nq2 => ?_⟩
      have s1 := s'.trans (same_new (o := .xd [("word", .int t), ("line", .int ln)]) nd)
      have s2 := s1.trans (same_new (o := .tup [.int ln, .int t]) nq1)
      have s3 := same_new (o := .tup [.int ln, .int t]) nq2
      refine ⟨.tuple [.int ln, .int t], .tuple [.int ln, .int t], .tup (SqT.of (s3 _ _ upd_same)) (.cons (.int ln) (.cons (.int t) .nil)), .tup (SqT.of upd_same) (.cons (.int ln) (.cons (.int t) .nil)), shaped_pair _ _, shaped_pair _ _, ?_⟩
      rw [SeqAt.eqv_refl _ (lay_pair _ _)]
      exact k _ (s2.trans s3)
    · refine .inl ⟨xKE, .str "lost", by simp [L2.start], rfl, _, rfl, if_posB rfl ⟨.int t, by simp [L2.start], .int (ws.length : Nat), by simp [L2.start], _, _, rfl, rfl, ?_⟩⟩
      show Q (.bl (decide ((t : Int) < (ws.length : Nat)))) H2
      rw [decide_eq_true (Int.ofNat_lt.mpr h)]
      exact k _ (s1.trans s2)
end
end K2

/-! text K2Kw -/
set_option Elab.async false
set_option linter.all false
set_option maxRecDepth 100000
set_option maxHeartbeats 1000000
/-! Calls by keywords alone: f(k = v, ..), o.m(k = v, ..), C(k = v, ..). -/
namespace Kw
open PySem PySem.Spec PyProof.Rows L2
/-- some places of a list, in order -/
def sel {α : Type} (perm : List Nat) (l : List α) : List α := perm.filterMap fun i => l[i]?
theorem vals_sel {zs : List V} {ws : List Value} (r : Vals zs ws) : ∀ perm : List Nat, Vals (sel perm zs) (sel perm ws)
  | [] => .nil
  | i :: perm => by
    have ih := vals_sel r perm
    unfold sel at ih ⊢
    cases e : zs[i]? with
    | none =>
      have e2 : ws[i]? = none := by
        rw [List.getElem?_eq_none_iff] at e ⊢
        rw [← r.length]
        exact e
      rw [List.filterMap_cons_none e, List.filterMap_cons_none e2]
      exact ih
    | some x =>
      obtain ⟨u, hu, ru⟩ := r.get e
      rw [List.filterMap_cons_some e, List.filterMap_cons_some hu]
      exact .cons ru ih
section
variable {X : Cx} {CX : CXT} {k : Nat} {f C : Addr} {fd : FuncData} {ps ks : List Str} {sp : Sp} {E : XK} {x m : Str} {p pos apos : Pos} {o : Expr} {kws : List Keyword} {ta : TE} {tk : TA} {perm : List Nat} {ds : List Value} {dvs : List V}
theorem run_kw {pins : List (Addr × Obj)} {σ : L2.St} {H : Hp} {s : Shared} {Q : VK} {us ws : List Value} {vs zs : List V} (F : FnOk X.prog X.w X.K X.mg X.base CX k f fd ps sp) (hr : Room k X.A) (hx : Passes CX X E)
    (b : BindsTo s fd ⟨us, ks.zip ws⟩ (ps.zip (us ++ sel perm ws))) (I : Inv X pins σ H s) (r : Vals vs us) (rz : Vals zs ws) (h : sp (vs ++ sel perm zs) H Q E) : wpAny (model X.prog X.w) X.A (call (.ref f) us (ks.zip ws)) (EP X pins σ Q) X.xe s := by
  refine wpAny_call (codeAny_mono (F.run X.A X.stack s H ⟨us, ks.zip ws⟩ (us ++ sel perm ws) (vs ++ sel perm zs) Q E hr I.env0 b (r.append (vals_sel rz perm)) h) fun z s' hz => ?_)
  match z, hz with
  | .error e, hz => exact hx pins σ H s e s' I hz
  | .ok (.ret u), hz => exact I.after hz
def tCallKw (sp : Sp) (perm : List Nat) (n : Nat) (E : XK) (tk : TA) : TE := fun σ H Q => tk σ H fun zs H1 => zs.length = n ∧ sp (sel perm zs) H1 Q E
/-- f(k = v, ..) -/
theorem pe_callKw (F : FnOk X.prog X.w X.K X.mg X.base CX k f fd ps sp) (hr : Room k X.A) (hg : Gl X x) (hm : X.mg x = some (.ref f)) (hk : PySem.W.keepIn X.K (.ref f) = true) (hb : ∀ (s : Shared) (ws : List Value), ws.length = ks.length → BindsTo s fd ⟨[], ks.zip ws⟩ (ps.zip (sel perm ws)))
    (hx : Passes CX X E) (hkw : PK X kws tk) (hall : (backToKw pos (keywordEach kws X.env)).all (·.1.isSome) = true := by rfl) (hks : (backToKw pos (keywordEach kws X.env)).filterMap (·.1) = ks := by rfl) (hdb : (x == ("__debug__" : Str)) = false := by decide)
    (hpl : ((backTo pos (starEach [] X.env)).any (·.1) || (backToKw pos (keywordEach kws X.env)).any (·.1.isNone)) = false := by rfl) : PE X (.Call (.Name x p) [] kws pos) (tCallKw sp perm ks.length E tk) := by
  refine ⟨fun pins s σ H Q I h => wpAny_Call_Name_kw (ld_glob I hg hm ?_ hdb)⟩
  refine PySem.W.callWith_KW0 (h₀ := X.base) I.ok.mod.kin hk hall (thn (hkw.run pos pins s σ H _ I h) fun ws s1 hw => ?_) hpl
  obtain ⟨zs, H1, I1, rz, hl, q⟩ := hw
  refine ⟨I1.kIn, ?_⟩
  rw [hks]
  exact run_kw (us := []) (vs := []) F hr hx (hb s1 ws (rz.length.symm.trans hl)) I1 .nil rz q
def tMethKw (C : Addr) (m : Str) (sp : Sp) (perm : List Nat) (n : Nat) (E : XK) (ta : TE) (tk : TA) : TE := fun σ H Q => ta σ H fun x H1 => ∃ a dx fs, x = .ref a ∧ H1 a = some (.ins C dx fs) ∧ fs.lookup m = none ∧ tk σ H1 fun zs H2 => zs.length = n ∧ sp (x :: sel perm zs) H2 Q E
/-- o.m(k = v, ..) -/
theorem pe_methKw {pl : Sem Bool} (he : PE X o ta) (c : Cls X.K C) (hm : Meth X.K C m f) (F : FnOk X.prog X.w X.K X.mg X.base CX k f fd ps sp) (hr : Room k X.A) (hb : ∀ (s : Shared) (u : Value) (ws : List Value), ws.length = ks.length → BindsTo s fd ⟨[u], ks.zip ws⟩ (ps.zip (u :: sel perm ws)))
    (hx : Passes CX X E) (hkw : PK X kws tk) (hall : (backToKw pos (keywordEach kws X.env)).all (·.1.isSome) = true := by rfl) (hks : (backToKw pos (keywordEach kws X.env)).filterMap (·.1) = ks := by rfl)
    (hpl : ((backTo pos (starEach [] X.env)).any (·.1) || (backToKw pos (keywordEach kws X.env)).any (·.1.isNone)) = false := by rfl)
    (ht : eval (.Call (.Attribute o m apos) [] kws pos) X.env = (do
      let u ← eval o X.env
      standAt apos.atName
      let (g, one) ← holding [u] (getMethod u m pl)
      callWith pos g one (backTo pos (starEach [] X.env)) (backToKw pos (keywordEach kws X.env))) := by rfl) : PE X (.Call (.Attribute o m apos) [] kws pos) (tMethKw C m sp perm ks.length E ta tk) := by
  refine ⟨fun pins s σ H Q I h => PySem.W.methodCall_KW (pl := pl) (thn (he.run pins s σ H _ I h) fun v s1 hv => ?_) ht⟩
  obtain ⟨x, H1, I1, rx, a, dx, fs, rfl, ea, l, q⟩ := hv
  obtain rfl : v = Value.ref a := rx
  refine getmeth_ok I1 ea c hm l (PySem.W.callWith_KW0 (first := [.ref a]) (h₀ := X.base) I.ok.mod.kin hm.kp hall (thn (hkw.run pos pins s1 σ H1 _ I1 q) fun ws s2 hw => ?_) hpl)
  obtain ⟨zs, H2, I2, rz, hl, q2⟩ := hw
  refine ⟨I2.kIn, ?_⟩
  rw [hks]
  exact run_kw (us := [.ref a]) (vs := [.ref a]) F hr hx (hb s2 (.ref a) ws (rz.length.symm.trans hl)) I2 (.cons rfl .nil) rz q2
/-- C(k = v, ..) -/
theorem pe_makeKw {g : List Value → List Value → List Value} {gV : List V → List V → List V} (M : Mk X.K C f) (F : FnOk X.prog X.w X.K X.mg X.base CX k f fd ps sp) (hr : Room (k + 1) X.A) (hg : Gl X x) (hm : X.mg x = some (.ref C)) (hb : KBn X.K fd ps 1 ks g gV) (hx : Passes CX X E) (hkw : PK X kws tk)
    (hall : (backToKw pos (keywordEach kws X.env)).all (·.1.isSome) = true := by rfl) (hks : (backToKw pos (keywordEach kws X.env)).filterMap (·.1) = ks := by rfl) (hdb : (x == ("__debug__" : Str)) = false := by decide)
    (hpl : ((backTo pos (starEach [] X.env)).any (·.1) || (backToKw pos (keywordEach kws X.env)).any (·.1.isNone)) = false := by rfl) : PE X (.Call (.Name x p) [] kws pos) (tMakeN C 0 ks.length sp gV E tNil tk) := by
  refine ⟨fun pins s σ H Q I h => wpAny_Call_Name_kw (ld_glob I hg hm ?_ hdb)⟩
  refine PySem.W.callWith_KW0 (h₀ := X.base) I.ok.mod.kin M.kp hall (thn (hkw.run pos pins s σ H _ I h) fun ws s1 hw => ?_) hpl
  obtain ⟨zs, H1, I1, rz, _, hl, q⟩ := hw
  refine ⟨I1.kIn, ?_⟩
  rw [hks]
  exact run_makeN (us := []) (vs := []) M F hr hb hx I1 .nil rz rfl hl q
end
end Kw

/-! text K2LNum -/
set_option Elab.async false
set_option linter.all false
set_option maxRecDepth 100000
set_option maxHeartbeats 1000000
namespace K2
open PySem PySem.Spec PyProof.Rows L2 RV
/-! The law's own _law_number (17 of the row's top). -/
abbrev sLNum : Stmt := top 18
def tenS : Str := "0123456789"
def digB (c : Nat) : Bool := decide (c ∈ tenS.cps.toList)
def isMinus (x : Str) : Bool := decide (V.str (cutS x none (some 1)) = V.str "-")
def figS (x : Str) : Str := if isMinus x = true then cutS x (some 1) none else x
def valS (cs : List Nat) : Int := cs.foldl (fun n c => 10 * n + ((c - 48 : Nat) : Int)) 0
def leadB (x : Str) : Bool := (decide (((figS x).length : Int) > 1) && decide ((figS x).cps.toList.head? = some 48)) || decide (V.str x = V.str "-0")
/-- the number that a word writes -/
def numL (x : Str) : Option Int :=
  if decide (V.str (figS x) = V.str "") = true then none else if (figS x).cps.toList.all digB = false then none else if leadB x = true then none
  else some (if isMinus x = true then -(valS (figS x).cps.toList) else valS (figS x).cps.toList)
def resL (x : Str) (lo hi : Int) : V := match numL x with
  | none => .non
  | some n => inB lo hi n
theorem dig_index (c : Nat) (h : digB c = true) : ∃ rest, Builtin.Str.occurrences tenS (one c) 0 tenS.length 1 = (c - 48) :: rest := by
  have h2 := of_decide_eq_true h
  have e : tenS.cps.toList = [48, 49, 50, 51, 52, 53, 54, 55, 56, 57] := by decide +kernel
  rw [e] at h2
  simp only [List.mem_cons, List.not_mem_nil, or_false] at h2
  rcases h2 with rfl | rfl | rfl | rfl | rfl | rfl | rfl | rfl | rfl | rfl <;> exact ⟨[], by decide +kernel⟩
theorem no_dig (cs : List Nat) : ((cs.filter fun c => !digB c).map fun c => PyData.str (one c)).isEmpty = cs.all digB := by
  induction cs with
  | nil => rfl
  | cons c cs ih =>
    rw [List.filter_cons, List.all_cons]
    cases e : digB c with
    | true =>
      rw [if_neg (by decide), Bool.true_and]
      exact ih
    | false =>
      rw [if_pos (by decide)]
      rfl
def spLNum (K : PySem.W.Frag) : Sp := fun vs H Q _ => ∃ x lo hi, vs = [.str x, .int lo, .int hi] ∧ x.length ≤ 1000 ∧ (figS x).length ≤ 1000 ∧ (∀ c ∈ (figS x).cps.toList, PyData.strOk (one c) = true) ∧ ∀ H', Same H H' → Q (resL x lo hi) H'
abbrev rNiT : R2 := fun x y H Q => ∃ (c : Nat) (z : Str), x = .str ⟨#[c]⟩ ∧ y = .str z ∧ Q (.bl (!decide (c ∈ z.cps.toList))) H
def ttNo : TT := tTest (tOp rNiT (tVar 4) (tC (.str "0123456789")))
theorem nodig_read {σ : L2.St} {H : Hp} {Q : VK} {x : Str} (h0 : σ[3]? = some (some (.str x))) (hw : ∀ v, wipe ((wipe σ [4]).set 4 v) [4] = wipe σ [4]) (hi : ∀ v, ((wipe σ [4]).set 4 (some v))[4]? = some (some v)) (hz : x.length ≤ 1000000)
    (k : ∀ r H', Same H H' → H' r = some (.lst ((x.cps.toList.filter fun c => !digB c).map fun c => V.str (one c))) → Q (.ref r) H') : tLc (iStr (tVar 3)) (gName 4) ttNo (tVar 4) [4] σ H Q := by
  refine ⟨_, h0, x, rfl, fun D nD => lc_it walk_str (fun n H' => Same H H' ∧ H' D = some (.lst (((x.cps.toList.take n).filter fun c => !digB c).map fun c => V.str (one c)))) ⟨fun c o e => ?_, upd_same⟩ (fun _ _ _ _ => trivial) ?_ ?_⟩
  · rw [upd_ne (ne_of_none e nD)]
    exact e
  · rintro n v H1 H2 hn ⟨s1, hD⟩ ⟨rfl, c, hc, rfl⟩
    have hc2 : x.cps.toList[n]? = some c := by rw [Array.getElem?_toList]; exact hc
    obtain ⟨hl, hv⟩ := List.getElem?_eq_some_iff.mp hc2
    have more : x.cps.toList.take (n + 1) = x.cps.toList.take n ++ [c] := by
      rw [← hv]
      exact List.take_succ_eq_append_getElem hl
    refine ⟨hw _, _, hi _, c, "0123456789", rfl, rfl, _, rfl, ?_⟩
    show if (!digB c) = true then _ else _
    rw [more, List.filter_append, List.map_append]
    cases e : digB c with
    | true =>
      refine if_negB rfl ⟨s1, ?_⟩
      rw [List.filter_cons, if_neg (by rw [e]; decide)]
      simpa using hD
    | false =>
      refine if_posB rfl ⟨_, hi _, _, hD, ?_, ?_, ?_⟩
      · have h1 : x.cps.toList.length = x.length := by simp [Str.length]
        have h2 := List.length_filter_le (fun c => !digB c) (x.cps.toList.take n)
        rw [List.length_take] at h2
        rw [List.length_map, sizeLine_eq]
        omega
      · intro d o hd
        rw [upd_ne (ne_of_none hd nD)]
        exact s1 _ _ hd
      · rw [List.filter_cons, if_pos (by rw [e]; rfl)]
        exact upd_same
  · rintro H1 ⟨s1, hD⟩
    rw [List.take_of_length_le (by simp)] at hD
    exact k D H1 s1 hD
abbrev rSix : V → List V → Hp → VK → Prop := fun x xs H Q => ∃ a b i rest, x = V.str a ∧ xs = [V.str b] ∧ Builtin.Str.occurrences a b 0 a.length 1 = i :: rest ∧ Q (V.int ↑i) H
def tLoopL (K : PySem.W.Frag) : TS := tFor (iStr (tVar 3)) (gName 4) (tAsg (tOp (rI0 fun i j => V.int (i + j)) (tOp (rI CMul fun i j => V.int (i * j)) (tC (V.int 10)) (tVar 5)) (tBM K "str" rSix (tC (V.str (Str.ofString "0123456789"))) (tCons (tVar 4) tNil))) (gName 5))
def tEndL : TS := tSeq (tAsg (tIf (tTest (tOp rEq (tSl rSlS (tVar 0) tNoPart (tPart (tC (V.int 1)))) (tC (V.str (Str.ofString "-"))))) (tUn (rU fun i => V.int (-i)) (tVar 5)) (tVar 5)) (gName 5))
  (tRet (tIf (tTest (tChain (rI0 fun i j => V.bl (decide (i ≤ j))) (rI0 fun i j => V.bl (decide (i ≤ j))) (tVar 1) (tVar 5) (tVar 2))) (tVar 5) (tC V.non)))
def tRestL (K : PySem.W.Frag) : TS := tSeq (tIfS (tOr (tTest (tOp rEq (tVar 3) (tC (V.str (Str.ofString ""))))) (tTest (tOp (rNeD K) (tLc (iStr (tVar 3)) (gName 4) ttNo (tVar 4) [4]) (tLst tNil)))) (tRet (tC V.non)) tNext)
  (tSeq (tIfS (tOr (tAnd (tTest (tOp (rI0 fun i j => V.bl (decide (j < i))) (tCB (fun xs H Q => ∃ z, xs = [V.str z] ∧ z.length ≤ sizeLine ∧ Q (V.int ↑z.length) H) (tCons (tVar 3) tNil)) (tC (V.int 1)))) (tTest (tOp rEq (tOp rIxS (tVar 3) (tC (V.int 0))) (tC (V.str (Str.ofString "0"))))))
      (tTest (tOp rEq (tVar 0) (tC (V.str (Str.ofString "-0")))))) (tRet (tC V.non)) tNext)
    (tSeq (tAsg (tC (V.int 0)) (gName 5)) (tSeq (tLoopL K) tEndL)))
theorem end_readL {σ : L2.St} {H : Hp} {nx : L2.St → Hp → Prop} {Q : VK} {x : Str} {lo hi n : Int} (h0 : σ[0]? = some (some (.str x))) (h1 : σ[1]? = some (some (.int lo))) (h2 : σ[2]? = some (some (.int hi))) (h5 : σ[5]? = some (some (.int n))) (hz : x.length ≤ 1000)
    (k : Q (inB lo hi (if isMinus x = true then -n else n)) H) : tEndL { nx := nx, rt := Q } σ H := by
  have zs : x.length ≤ sizeLine := by rw [sizeLine_eq]; omega
  have l5 : 5 < σ.length := (List.getElem?_eq_some_iff.mp h5).1
  have g1 : ∀ v, (σ.set 5 v)[1]? = some (some (.int lo)) := fun v => by rw [List.getElem?_set_ne (by decide)]; exact h1
  have g2 : ∀ v, (σ.set 5 v)[2]? = some (some (.int hi)) := fun v => by rw [List.getElem?_set_ne (by decide)]; exact h2
  have g5 : ∀ v, (σ.set 5 (some v))[5]? = some (some v) := fun v => List.getElem?_set_self l5
  have fin : ∀ m : Int, Q (inB lo hi m) H → tRet (tIf (tTest (tChain (rI0 fun i j => V.bl (decide (i ≤ j))) (rI0 fun i j => V.bl (decide (i ≤ j))) (tVar 1) (tVar 5) (tVar 2))) (tVar 5) (tC V.non)) { nx := nx, rt := Q } (σ.set 5 (some (.int m))) H := fun m q => by
    unfold inB at q
    refine ⟨_, g1 _, _, g5 _, lo, m, rfl, rfl, _, rfl, ?_⟩
    by_cases a : lo ≤ m
    · refine if_posB (decide_eq_true a) ⟨_, g2 _, m, hi, rfl, rfl, _, rfl, ?_⟩
      by_cases b : m ≤ hi
      · rw [if_pos ⟨a, b⟩] at q
        exact if_posB (decide_eq_true b) ⟨_, g5 _, q⟩
      · rw [if_neg fun z => b z.2] at q
        exact if_negB (decide_eq_false b) q
    · rw [if_neg fun z => a z.1] at q
      exact if_negB (decide_eq_false a) ⟨_, rfl, if_negB rfl q⟩
  refine ⟨.str x, h0, _, rfl, x, rfl, zs, rfl, _, rfl, ?_⟩
  cases e : isMinus x with
  | true =>
    rw [e, if_pos rfl] at k
    exact if_posB e ⟨_, h5, n, rfl, fin (-n) k⟩
  | false =>
    rw [e, if_neg Bool.false_ne_true] at k
    exact if_negB e ⟨_, h5, fin n k⟩
theorem loop_readL {K : PySem.W.Frag} {σ : L2.St} {H : Hp} {D : Ends} {x y : Str} {lo hi : Int} (h0 : σ[0]? = some (some (.str x))) (h1 : σ[1]? = some (some (.int lo))) (h2 : σ[2]? = some (some (.int hi))) (h3 : σ[3]? = some (some (.str y))) (h5 : σ[5]? = some (some (.int 0)))
    (l4 : 4 < σ.length) (dg : y.cps.toList.all digB = true)
    (k : ∀ σ', σ'[0]? = some (some (.str x)) → σ'[1]? = some (some (.int lo)) → σ'[2]? = some (some (.int hi)) → σ'[5]? = some (some (.int (valS y.cps.toList))) → D.nx σ' H) : tLoopL K D σ H := by
  refine ⟨_, h3, y, rfl, for_it walk_str (fun n σ' H' => H' = H ∧ 5 < σ'.length ∧ σ'[0]? = some (some (.str x)) ∧ σ'[1]? = some (some (.int lo)) ∧ σ'[2]? = some (some (.int hi)) ∧ σ'[5]? = some (some (.int (valS (y.cps.toList.take n))))) ⟨rfl, (List.getElem?_eq_some_iff.mp h5).1, h0, h1, h2, h5⟩ (fun _ _ _ _ _ => trivial) ?_ ?_⟩
  · rintro n v σ' H' H2 hn ⟨rfl, hl, a0, a1, a2, a5⟩ ⟨rfl, c, hc, rfl⟩
    have hc2 : y.cps.toList[n]? = some c := by rw [Array.getElem?_toList]; exact hc
    obtain ⟨hl2, hv⟩ := List.getElem?_eq_some_iff.mp hc2
    have more : y.cps.toList.take (n + 1) = y.cps.toList.take n ++ [c] := by
      rw [← hv]
      exact List.take_succ_eq_append_getElem hl2
    have hd : digB c = true := List.all_eq_true.mp dg c (List.mem_of_getElem? hc2)
    obtain ⟨rest, ho⟩ := dig_index c hd
    have b : ∀ {i : Nat} {u : Option V}, i ≠ 4 → σ'[i]? = some u → (σ'.set 4 (some (V.str ⟨#[c]⟩)))[i]? = some u := fun {i u} hi e => by rw [List.getElem?_set_ne (Ne.symm hi)]; exact e
    have z10 : CMul 10 (valS (y.cps.toList.take n)) := .inl ⟨by decide, by decide⟩
    refine ⟨_, b (by decide) a5, 10, _, rfl, rfl, z10, rfl, _, List.getElem?_set_self (by omega), tenS, one c, c - 48, rest, rfl, rfl, ho, _, _, rfl, rfl, ?_⟩
    have ev : valS (y.cps.toList.take (n + 1)) = 10 * valS (y.cps.toList.take n) + ((c - 48 : Nat) : Int) := by
      rw [more]
      unfold valS
      rw [List.foldl_append]
      rfl
    refine ⟨rfl, by simpa using hl, ?_, ?_, ?_, ?_⟩
    · rw [List.getElem?_set_ne (by decide)]
      exact b (by decide) a0
    · rw [List.getElem?_set_ne (by decide)]
      exact b (by decide) a1
    · rw [List.getElem?_set_ne (by decide)]
      exact b (by decide) a2
    · rw [List.getElem?_set_self (by simpa using hl), ev]
  · rintro σ' H' ⟨rfl, hl, a0, a1, a2, a5⟩
    rw [List.take_of_length_le (by simp)] at a5
    exact k σ' a0 a1 a2 a5
theorem rest_readL {K : PySem.W.Frag} {σ : L2.St} {H : Hp} {nx : L2.St → Hp → Prop} {Q : VK} {x : Str} {lo hi : Int} (h0 : σ[0]? = some (some (.str x))) (h1 : σ[1]? = some (some (.int lo))) (h2 : σ[2]? = some (some (.int hi))) (h3 : σ[3]? = some (some (.str (figS x)))) (h4 : σ[4]? = some none) (l6 : σ.length = 6)
    (hz : x.length ≤ 1000) (fz : (figS x).length ≤ 1000) (hS : ∀ c ∈ (figS x).cps.toList, PyData.strOk (one c) = true) (k : ∀ H', Same H H' → Q (resL x lo hi) H') : tRestL K { nx := nx, rt := Q } σ H := by
  have zf : (figS x).length ≤ sizeLine := by rw [sizeLine_eq]; omega
  refine ⟨_, h3, rfl, _, rfl, ?_⟩
  by_cases c0 : V.str (figS x) = V.str ""
  · refine if_posB (decide_eq_true c0) (if_posB rfl ?_)
    have e : resL x lo hi = .non := by
      unfold resL numL
      rw [if_pos (decide_eq_true c0)]
    rw [e] at k
    exact k H fun _ _ z => z
  refine if_negB (decide_eq_false c0) ?_
  show tLc (iStr (tVar 3)) (gName 4) ttNo (tVar 4) [4] σ H fun r H1 => tLst tNil σ H1 fun y H2 => rNeD K r y H2 _
  refine nodig_read h3 (fun v => by simp [wipe]) (fun v => by simp [wipe, l6]) (by omega) fun r H1 s1 R => ⟨Nat.zero_le _, fun q nq => ?_⟩
  have s2 : Same H1 (upd H1 q (.lst [])) := same_new nq
  refine ⟨_, .list [], .lst (SqL.of (s2 _ _ R)) (dp_strs _), .lst (SqL.of upd_same) .nil, shaped_strs _ (fun c hc => hS c ((List.mem_filter.mp hc).1)), by decide, _, rfl, ?_⟩
  have sH := s1.trans s2
  rw [eqv_nil, no_dig]
  cases c1 : (figS x).cps.toList.all digB with
  | false =>
    refine if_posB rfl ?_
    have e : resL x lo hi = .non := by
      unfold resL numL
      rw [if_neg (by rw [decide_eq_false c0]; exact Bool.false_ne_true), if_pos c1]
    rw [e] at k
    exact k _ sH
  | true =>
    refine if_negB rfl ?_
    have hp : 0 < (figS x).cps.toList.length := by
      cases e : (figS x).cps.toList with
      | nil =>
        refine absurd ?_ c0
        have e2 : figS x = "" := by
          cases hx : figS x with
          | mk a =>
            rw [hx] at e
            have : a = #[] := by simpa using e
            rw [this]
            rfl
        rw [e2]
      | cons a b => exact Nat.zero_lt_succ _
    obtain ⟨c, cs, hc⟩ : ∃ c cs, (figS x).cps.toList = c :: cs := by
      cases h : (figS x).cps.toList with
      | nil => rw [h] at hp; exact absurd hp (by decide)
      | cons c cs => exact ⟨c, cs, rfl⟩
    have zero : V.str ⟨#[48]⟩ = V.str "0" := by rfl
    have e48 : decide (V.str (⟨#[c]⟩ : Str) = V.str "0") = decide ((figS x).cps.toList.head? = some 48) := by
      rw [hc]
      refine decide_eq_decide.mpr ⟨fun h => ?_, fun h => ?_⟩
      · have h2 : (⟨#[c]⟩ : Str) = ⟨#[48]⟩ := V.str.inj (h.trans zero.symm)
        have h3 := congrArg (fun s : Str => s.cps.toList) h2
        simpa using h3
      · have h2 : c = 48 := by simpa using h
        rw [h2]
        rfl
    have bad : leadB x = true → Q .non (upd H1 q (.lst [])) := fun hb => by
      have e : resL x lo hi = .non := by
        unfold resL numL
        rw [if_neg (by rw [decide_eq_false c0]; exact Bool.false_ne_true), if_neg (by rw [c1]; exact Bool.noConfusion), if_pos hb]
      rw [e] at k
      exact k _ sH
    have good : leadB x = false → tSeq (tAsg (tC (V.int 0)) (gName 5)) (tSeq (tLoopL K) tEndL) { nx := nx, rt := Q } σ (upd H1 q (.lst [])) := fun hb => by
      have b : ∀ {i : Nat} {u : Option V}, i ≠ 5 → σ[i]? = some u → (σ.set 5 (some (V.int 0)))[i]? = some u := fun {i u} hi e => by rw [List.getElem?_set_ne (Ne.symm hi)]; exact e
      refine loop_readL (b (by decide) h0) (b (by decide) h1) (b (by decide) h2) (b (by decide) h3) (List.getElem?_set_self (by omega)) (by rw [List.length_set]; omega) c1 fun σ' a0 a1 a2 a5 => ?_
      refine end_readL a0 a1 a2 a5 hz ?_
      have e : resL x lo hi = inB lo hi (if isMinus x = true then -(valS (figS x).cps.toList) else valS (figS x).cps.toList) := by
        unfold resL numL
        rw [if_neg (by rw [decide_eq_false c0]; exact Bool.false_ne_true), if_neg (by rw [c1]; exact Bool.noConfusion), if_neg (by rw [hb]; exact Bool.false_ne_true)]
      rw [e] at k
      exact k _ sH
    refine ⟨_, h3, _, rfl, zf, _, _, rfl, rfl, _, rfl, ?_⟩
    by_cases g1 : ((figS x).length : Int) > 1
    · refine if_posB (decide_eq_true g1) ⟨_, h3, _, 0, c, rfl, rfl, zf, atI_nat (j := 0) (by rw [hc]; rfl), rfl, _, rfl, ?_⟩
      rw [e48]
      by_cases g2 : (figS x).cps.toList.head? = some 48
      · have hb : leadB x = true := by unfold leadB; rw [decide_eq_true g1, decide_eq_true g2]; rfl
        exact if_posB (decide_eq_true g2) (if_posB rfl (bad hb))
      · refine if_negB (decide_eq_false g2) ⟨_, h0, rfl, _, rfl, ?_⟩
        by_cases g3 : V.str x = V.str "-0"
        · have hb : leadB x = true := by unfold leadB; rw [decide_eq_true g3, Bool.or_true]
          exact if_posB (decide_eq_true g3) (bad hb)
        · have hb : leadB x = false := by unfold leadB; rw [decide_eq_false g2, decide_eq_false g3, Bool.and_false, Bool.or_false]
          exact if_negB (decide_eq_false g3) (good hb)
    · refine if_negB (decide_eq_false g1) (if_negB rfl ⟨_, h0, rfl, _, rfl, ?_⟩)
      by_cases g3 : V.str x = V.str "-0"
      · have hb : leadB x = true := by unfold leadB; rw [decide_eq_true g3, Bool.or_true]
        exact if_posB (decide_eq_true g3) (bad hb)
      · have hb : leadB x = false := by unfold leadB; rw [decide_eq_false g1, decide_eq_false g3, Bool.false_and, Bool.or_false]
        exact if_negB (decide_eq_false g3) (good hb)
section
variable {P : Program} {w : World} {K : PySem.W.Frag} {mg : Str → Option Value} {base : Heap} {f : Addr} {fd : FuncData}
abbrev scLN_N : List Str := ["_law_word", "_law_least", "_law_most", "_law_figures", "_law_sign", "_law_found"]
theorem scLN : FnScope scLN_N ["_law_word", "_law_least", "_law_most"] (defScope sLNum) := ⟨rfl, rfl, rfl, by decide +kernel, rfl, by decide +kernel, by decide +kernel⟩
theorem ok_lnum (F : FnP K "_law_number" sLNum f fd) (T : Blt2 mg) : FnOk P w K mg base CX0 1 f fd ["_law_word", "_law_least", "_law_most"] (spLNum K) := by
  refine F.ok scLN (fun vs H Q E h => ?_) (fun cdv A outer s H vs Q E hr h => ?_)
  · obtain ⟨x, lo, hi, rfl, _⟩ := h
    rfl
  · obtain ⟨x, lo, hi, rfl, hz, fz, hS, k⟩ := h
    refine ⟨_, PSs.nox (pss_cons (ps_set (i := 3) scLN.nd rfl (.inl rfl) (pe_ifExp (pt_cmpR op_eq (pe_slice sl_str (pv 0) po_none (po_some pe_int)) pe_str (nomark _)) (pe_slice sl_str (pv 0) (po_some pe_int) po_none) (pv 0)))
      (pss_cons (ps_if (PW.pt (pw_or (pt_cmpR op_eq (pv 3) pe_str (nomark _)) (pw_or1 (pt_cmpR (op_neD hr.units) (pe_lc (own := [("_law_sign", 4)]) (g := gName 4) (tt := ttNo) (te := tVar 4) rfl scLN.nd (pi_str (pv 3)) (blkOk_by (N := scLN_N) (sc := defScope sLNum) (by decide +kernel))
          (fun _ _ _ _ _ => pg_name (i := 4) scLN.nd rfl (.inl rfl)) (fun _ _ _ _ _ => pts_one (pt_cmpR op_notIn_sign (pv 4) pe_str rfl)) (fun _ _ _ _ _ => pv 4)) (pe_lst pa_nil) (nomark _))))) (pss_one (ps_ret pe_non)) pss_nil)
      (pss_cons (ps_if (PW.pt (pw_or (PW.pt (pw_and (pt_cmpR op_gt (pe_callB call_len_str (by rfl) T.len PySem.boot_len (pa_cons (pv 3) pa_nil)) pe_int (nomark _)) (pw_and1 (pt_cmpR op_eq (pe_ix ix_str (pv 3) pe_int (fun _ _ => rfl)) pe_str (nomark _)))))
          (pw_or1 (pt_cmpR op_eq (pv 0) pe_str (nomark _))))) (pss_one (ps_ret pe_non)) pss_nil)
      (pss_cons (ps_set (i := 5) scLN.nd rfl (.inl rfl) pe_int)
      (pss_cons (ps_for PassesOwn.never rfl (pi_str (pv 3)) (pg_name (i := 4) scLN.nd rfl (.inl rfl)) (pss_one (ps_set (i := 5) scLN.nd rfl (.inl rfl) (pe_op op_add (pe_op op_mul pe_int (pv 5)) (pe_bm PySem.F.plainAttrs_str PySem.F.slot_str_index PySem.F.type_str_index mt_sindex pe_str (pa_cons (pv 4) pa_nil))))))
      (pss_cons (ps_set (i := 5) scLN.nd rfl (.inl rfl) (pe_ifExp (pt_cmpR op_eq (pe_slice sl_str (pv 0) po_none (po_some pe_int)) pe_str (nomark _)) (pe_un un_neg (pv 5)) (pv 5)))
      (pss_one (ps_ret (pe_ifExp (pt_chain op_le op_le (pv 1) (pv 5) (pv 2)) (pv 5) pe_non))))))))), ?_⟩
    have zs : x.length ≤ sizeLine := by rw [sizeLine_eq]; omega
    refine ⟨.str x, rfl, _, rfl, x, rfl, zs, rfl, _, rfl, ?_⟩
    cases em : isMinus x with
    | true =>
      have ef : figS x = cutS x (some 1) none := by unfold figS; rw [if_pos em]
      refine if_posB em ⟨.str x, rfl, _, rfl, x, rfl, zs, ?_⟩
      rw [← ef]
      show tRestL K _ ((L2.start scLN_N [.str x, .int lo, .int hi]).set 3 (some (.str (figS x)))) H
      exact rest_readL rfl rfl rfl rfl rfl rfl hz fz hS k
    | false =>
      have ef : figS x = x := by unfold figS; rw [if_neg (by rw [em]; exact Bool.false_ne_true)]
      refine if_negB em ⟨.str x, rfl, ?_⟩
      show tRestL K _ ((L2.start scLN_N [.str x, .int lo, .int hi]).set 3 (some (.str x))) H
      exact rest_readL rfl rfl rfl (by rw [ef]; rfl) rfl rfl hz fz hS k
end
end K2

/-! text K2Tab -/
set_option Elab.async false
set_option linter.all false
set_option maxRecDepth 100000
set_option maxHeartbeats 0
namespace K2
open PySem PySem.Spec PyProof.Rows L2 RV
/-! number_of and _law_number agree at all words and bounds that are drawn. -/
def bndsL : List (Int × Int) := [(0, 9), (1, 6), (-5, 5), (0, 10 ^ 30), (1, 1), (-(10 ^ 39), 10 ^ 39), (-40, 10 ^ 31)]
def csB (x : Str) (lo hi : Int) (v : V) : Bool :=
  if plainB x = true then (if mxL lo hi < (x.length : Int) then decide (v = .non) else decide (x.length ≤ 640) && (match PySem.intText? x with
    | some n => decide (v = inB lo hi n)
    | none => false)) else decide (v = .non)
theorem csB_ok {x : Str} {lo hi : Int} {v : V} (h : csB x lo hi v = true) : (plainB x = false ∧ v = .non) ∨ (plainB x = true ∧ mxL lo hi < (x.length : Int) ∧ v = .non) ∨ (plainB x = true ∧ (x.length : Int) ≤ mxL lo hi ∧ x.length ≤ 640 ∧ ∃ n, PySem.intText? x = some n ∧ v = inB lo hi n) := by
  unfold csB at h
  by_cases h1 : plainB x = true
  · rw [if_pos h1] at h
    by_cases h2 : mxL lo hi < (x.length : Int)
    · rw [if_pos h2] at h
      exact .inr (.inl ⟨h1, h2, of_decide_eq_true h⟩)
    · rw [if_neg h2] at h
      obtain ⟨h3, h4⟩ := Bool.and_eq_true_iff.mp h
      cases e : PySem.intText? x with
      | none => rw [e] at h4; cases h4
      | some n =>
        rw [e] at h4
        exact .inr (.inr ⟨h1, Int.not_lt.mp h2, of_decide_eq_true h3, n, rfl, of_decide_eq_true h4⟩)
  · rw [if_neg h1] at h
    exact .inl ⟨eq_false_of_ne_true h1, of_decide_eq_true h⟩
def bndOk (b : Int × Int) : Bool := decide (b.1.natAbs.log2 < 1920) && (decide (b.2.natAbs.log2 < 1920) && (decide (lenS b.1 ≤ 1000000) && decide (lenS b.2 ≤ 1000000)))
def wordOk (x : Str) : Bool := decide (x.length ≤ 50) && (decide ((digs x).length ≤ 1000000) && (decide ((figS x).length ≤ 1000) && ((figS x).cps.toList.all (fun c => PyData.strOk (one c)) && (x.cps.toList.all (fun c => PyData.strOk (one c)) && (decide (32 ∉ x.cps.toList) && PyData.strOk x)))))
theorem bnds_ok : bndsL.all bndOk = true := by decide +kernel
theorem words_ok : wordsL.all wordOk = true := by decide +kernel
theorem tab_ok : (wordsL.all fun x => bndsL.all fun b => csB x b.1 b.2 (resL x b.1 b.2)) = true := by decide +kernel
theorem word_ok {x : Str} (h : x ∈ wordsL) : x.length ≤ 50 ∧ (digs x).length ≤ 1000000 ∧ (figS x).length ≤ 1000 ∧ (∀ c ∈ (figS x).cps.toList, PyData.strOk (one c) = true) ∧ (∀ c ∈ x.cps.toList, PyData.strOk (one c) = true) ∧ 32 ∉ x.cps.toList ∧ PyData.strOk x = true := by
  have z := List.all_eq_true.mp words_ok x h
  obtain ⟨h1, z⟩ := Bool.and_eq_true_iff.mp z
  obtain ⟨h2, z⟩ := Bool.and_eq_true_iff.mp z
  obtain ⟨h3, z⟩ := Bool.and_eq_true_iff.mp z
  obtain ⟨h4, z⟩ := Bool.and_eq_true_iff.mp z
  obtain ⟨h5, z⟩ := Bool.and_eq_true_iff.mp z
  obtain ⟨h6, h7⟩ := Bool.and_eq_true_iff.mp z
  exact ⟨of_decide_eq_true h1, of_decide_eq_true h2, of_decide_eq_true h3, List.all_eq_true.mp h4, List.all_eq_true.mp h5, of_decide_eq_true h6, h7⟩
theorem num_at {x : Str} {b : Int × Int} (h : x ∈ wordsL) (hb : b ∈ bndsL) : NumAt x b.1 b.2 (resL x b.1 b.2) := by
  have z := List.all_eq_true.mp bnds_ok b hb
  obtain ⟨h1, z⟩ := Bool.and_eq_true_iff.mp z
  obtain ⟨h2, z⟩ := Bool.and_eq_true_iff.mp z
  obtain ⟨h3, h4⟩ := Bool.and_eq_true_iff.mp z
  obtain ⟨w1, w2, _⟩ := word_ok h
  exact ⟨of_decide_eq_true h1, of_decide_eq_true h2, of_decide_eq_true h3, of_decide_eq_true h4, by omega, w2, csB_ok (List.all_eq_true.mp (List.all_eq_true.mp tab_ok x h) b hb)⟩
end K2

/-! text K2Called -/
set_option Elab.async false
set_option linter.all false
set_option maxRecDepth 100000
set_option maxHeartbeats 1000000
namespace K2
open PySem PySem.Spec PyProof.Rows L2 RV EV He EF EI Hd LamX Kw
/-! _law_called (24): the code side. -/
abbrev sCalled : Stmt := top 25
abbrev sLaw : Stmt := top 27
def qC : Str := (envOfC "_law_called" (defScope sCalled) 0 0 .none).qual ++ "<lambda>"
def qL : Str := (envOfC "law" (defScope sLaw) 0 0 .none).qual ++ "<lambda>"
def cC (K : PySem.W.Frag) : Addr × Addr := cT K ("_law_called", none)
def cL (K : PySem.W.Frag) : Addr × Addr := cT K ("law", none)
def TL (K : PySem.W.Frag) : List (Addr × Str) := [((cC K).2, qC), ((cL K).2, qL)]
theorem tlC {P : Program} {w : World} {K : PySem.W.Frag} {mg : Str → Option Value} {base : Heap} (T : KF P w K mg base) : ∀ p ∈ TL K, p.1 = (cC K).2 → p.2 = qC := by
  intro p hp e
  unfold TL at hp
  rcases List.mem_cons.mp hp with rfl | hp
  · rfl
  · rcases List.mem_cons.mp hp with rfl | hp
    · exact absurd e.symm T.tn
    · cases hp
theorem tlL {P : Program} {w : World} {K : PySem.W.Frag} {mg : Str → Option Value} {base : Heap} (T : KF P w K mg base) : ∀ p ∈ TL K, p.1 = (cL K).2 → p.2 = qL := by
  intro p hp e
  unfold TL at hp
  rcases List.mem_cons.mp hp with rfl | hp
  · exact absurd e T.tn
  · rcases List.mem_cons.mp hp with rfl | hp
    · rfl
    · cases hp
abbrev scCa_N : List Str := ["_law_pen_here", "_law_words", "_law_left", "_law_word", "_law_way", "_law_found", "_law_told", "_law_high", "_law_low"]
abbrev psCa : List Str := ["_law_pen_here", "_law_words", "_law_left"]
theorem scCa : FnScope scCa_N psCa (defScope sCalled) := ⟨rfl, rfl, rfl, by decide +kernel, rfl, by decide +kernel, by decide +kernel⟩
/-- what _law_heard's def is, where it stands -/
theorem heardF {P : Program} {w : World} {K : PySem.W.Frag} {mg : Str → Option Value} {base : Heap} (T : KF P w K mg base) : ∃ oc od dV kV doc pm an cdv ct osl, K.lookup (ga K "_law_heard") = some ⟨oc, od, .func (PySem.W.fnOf "_law_heard" "_law_heard" (defArgs sHeard) (defBody sHeard) (defScope sHeard) dV kV doc pm an cdv ct), osl⟩ ∧
    PySem.W.codeIn K cdv "_law_heard" = true ∧ L2.Binds K (PySem.W.fnOf "_law_heard" "_law_heard" (defArgs sHeard) (defBody sHeard) (defScope sHeard) dV kV doc pm an cdv ct) ["_law_ask"] [] ∧ PySem.W.keepIn K (.ref (ga K "_law_heard")) = true ∧ mg "_law_heard" = some (.ref (ga K "_law_heard")) := by
  obtain ⟨fd, F, g⟩ := T.tops ("_law_heard", 20) (by decide)
  have b : L2.Binds K fd ["_law_ask"] [] := FunD.bindsN F fun _ _ _ _ _ _ us hl => match us, hl with | [_], _ => rfl
  obtain ⟨oc, od, dV, kV, doc, pm, an, cdv, ct, osl, rfl, lk, hcd, _, _⟩ := F.ex
  exact ⟨oc, od, dV, kV, doc, pm, an, cdv, ct, osl, lk, hcd, b, F.kp, g⟩
/-- _law_heard(lambda: body) in a def whose lambdas' table is known -/
theorem pe_heard {X : Cx} {c : Addr × Addr} {k : Nat} {params : Arguments} {body : Expr} {scope : Scope} {t : XK → TE} {p lpos pos : Pos} (T : KF X.prog X.w X.K X.mg X.base) (TB : TabB X.base X.mg c.1 c.2) (hcode : X.env.code = .ref c.1)
    (hmT : (c.2, X.env.qual ++ "<lambda>") ∈ TL X.K) (hu : ∀ p ∈ TL X.K, p.1 = c.2 → p.2 = X.env.qual ++ "<lambda>") (hg : Gl X "_law_heard") (hr : Room (k + 2) X.A) (L : LamS X.env.scope scope) (hdef : defaultsOf params X.env = ([], []))
    (hbind : ∀ (q : Str) (cl : List (Str × Addr)) (pm cv ctv : Value), bindArgs (PySem.W.kla_fn "<lambda>" q params body scope cl pm cv ctv) ⟨[], []⟩ = pure [])
    (hbody : ∀ (A : Around) (outer : List Env) (s : Shared) (H : Hp) (E : XK) (f c' : Addr), Room k (A.deeper (lamEnv X scope s.heap.objs.size f c')) → PE (lamCx X A outer s H E scope f c') body (t E)) :
    PE X (.Call (.Name "_law_heard" p) [.Lambda params body scope lpos] [] pos) (tLam (TL X.K) (TTh X.K) t) := by
  obtain ⟨oc, od, dV, kV, doc, pm, an, cdv, ct, osl, lk, hcd, b, kp, g⟩ := heardF T
  exact pe_lamcall hg g kp lk hcd b scHd rfl (.inl rfl) (heard_gives T) TB hcode hmT hu hr L hdef hbind hbody
section
variable {P : Program} {w : World} {K : PySem.W.Frag} {mg : Str → Option Value} {base : Heap}
/-- all that is called in _law_called -/
structure CC (P : Program) (w : World) (K : PySem.W.Frag) (mg : Str → Option Value) (base : Heap) : Prop where
  dr : ∃ fd, FnOk P w K mg base CX0 1 (ga K "_law_draw") fd ["_law_pen_here", "_law_many"] spDraw ∧ L2.Binds K fd ["_law_pen_here", "_law_many"] [] ∧ PySem.W.keepIn K (.ref (ga K "_law_draw")) = true ∧ mg "_law_draw" = some (.ref (ga K "_law_draw"))
  pk : ∃ fd, FnOk P w K mg base CX0 2 (ga K "_law_pick") fd ["_law_pen_here", "_law_some"] spPick ∧ L2.Binds K fd ["_law_pen_here", "_law_some"] [] ∧ PySem.W.keepIn K (.ref (ga K "_law_pick")) = true ∧ mg "_law_pick" = some (.ref (ga K "_law_pick"))
  lf : ∃ fd, FnOk P w K mg base CX0 1 (ga K "_law_is_fix") fd ["_law_word"] (spLFix K) ∧ L2.Binds K fd ["_law_word"] [] ∧ PySem.W.keepIn K (.ref (ga K "_law_is_fix")) = true ∧ mg "_law_is_fix" = some (.ref (ga K "_law_is_fix"))
  ln : ∃ fd, FnOk P w K mg base CX0 1 (ga K "_law_number") fd ["_law_word", "_law_least", "_law_most"] (spLNum K) ∧ L2.Binds K fd ["_law_word", "_law_least", "_law_most"] [] ∧ PySem.W.keepIn K (.ref (ga K "_law_number")) = true ∧ mg "_law_number" = some (.ref (ga K "_law_number"))
  sh : ∃ fd, FnOk P w K mg base (L2.CX P w) 1 (ga K "_law_is_short") fd ["_law_word"] spShort ∧ L2.Binds K fd ["_law_word"] [] ∧ PySem.W.keepIn K (.ref (ga K "_law_is_short")) = true ∧ mg "_law_is_short" = some (.ref (ga K "_law_is_short"))
theorem blt (T : KF P w K mg base) : Blt mg := ⟨T.fr _ (by decide), T.fr _ (by decide), T.fr _ (by decide), T.fr _ (by decide)⟩
theorem cc (T : KF P w K mg base) : CC P w K mg base := by
  obtain ⟨f1, F1, g1⟩ := T.tops ("_law_draw", 15) (by decide)
  obtain ⟨f2, F2, g2⟩ := T.tops ("_law_pick", 16) (by decide)
  obtain ⟨f3, F3, g3⟩ := T.tops ("_law_is_fix", 19) (by decide)
  obtain ⟨f4, F4, g4⟩ := T.tops ("_law_number", 18) (by decide)
  obtain ⟨f5, F5, g5⟩ := T.tops ("_law_is_short", 21) (by decide)
  exact ⟨⟨f1, ok_draw F1 (blt T), FunD.bindsN F1 fun _ _ _ _ _ _ us hl => match us, hl with | [_, _], _ => rfl, F1.kp, g1⟩, ⟨f2, ok_pick F2 (blt T) F1 g1, FunD.bindsN F2 fun _ _ _ _ _ _ us hl => match us, hl with | [_, _], _ => rfl, F2.kp, g2⟩,
    ⟨f3, ok_lfix F3 (blt2 T), FunD.bindsN F3 fun _ _ _ _ _ _ us hl => match us, hl with | [_], _ => rfl, F3.kp, g3⟩, ⟨f4, ok_lnum F4 (blt2 T), FunD.bindsN F4 fun _ _ _ _ _ _ us hl => match us, hl with | [_, _, _], _ => rfl, F4.kp, g4⟩,
    ⟨f5, (ok_short F5 (blt2 T)).up0, FunD.bindsN F5 fun _ _ _ _ _ _ us hl => match us, hl with | [_], _ => rfl, F5.kp, g5⟩⟩
/-- the methods that _law_called's lambdas call -/
structure MM (P : Program) (w : World) (K : PySem.W.Frag) (mg : Str → Option Value) (base : Heap) : Prop where
  tk : FnR P w K mg base (L2.CX P w) 4 (mAd K "take") (spStar (spTake0 K))
  tf : ∃ fd, FnOk P w K mg base (L2.CX P w) 5 (mAd K "take_fix") fd ["self"] (spTFix K) ∧ L2.Binds K fd ["self"] []
  tn : ∃ fd, FnOk P w K mg base (L2.CX P w) 4 (mAd K "take_number") fd ["self", "least", "most"] (spTNum K) ∧ L2.Binds K fd ["self", "least", "most"] [] ∧
    ∀ (s : Shared) (u : Value) (ws : List Value), ws.length = (["least", "most"] : List Str).length → BindsTo s fd ⟨[u], (["least", "most"] : List Str).zip ws⟩ ((["self", "least", "most"] : List Str).zip (u :: sel [0, 1] ws))
  by_ : ∃ fd, FnOk P w K mg base (L2.CX P w) 4 (mAd K "take_by") fd ["self", "rule"] (spBy K (ga K "_law_is_short") spShort) ∧
    ∀ (s : Shared) (u : Value) (ws : List Value), ws.length = (["rule"] : List Str).length → BindsTo s fd ⟨[u], (["rule"] : List Str).zip ws⟩ ((["self", "rule"] : List Str).zip (u :: sel [0] ws))
  en : ∃ fd, FnOk P w K mg base (L2.CX P w) 4 (mAd K "end") fd ["self"] (spEnd K) ∧ L2.Binds K fd ["self"] []
theorem mm (T : KF P w K mg base) : MM P w K mg base := by
  obtain ⟨_, f1, F1⟩ := T.meth ("take_fix", 7) (by decide)
  obtain ⟨_, f2, F2⟩ := T.meth ("take_number", 8) (by decide)
  obtain ⟨_, f3, F3⟩ := T.meth ("take_by", 9) (by decide)
  obtain ⟨_, f4, F4⟩ := T.meth ("end", 13) (by decide)
  obtain ⟨fs, S1, S2, S3, S4⟩ := (cc T).sh
  refine ⟨ok_take T, ⟨f1, ok_tfix T F1, FunD.bindsN F1 fun _ _ _ _ _ _ us hl => match us, hl with | [_], _ => rfl⟩, ⟨f2, ok_tnum T F2, FunD.bindsN F2 fun _ _ _ _ _ _ us hl => match us, hl with | [_, _, _], _ => rfl, ?_⟩, ⟨f3, ok_by T F3 S1 (by decide) S3 S2, ?_⟩,
    ⟨f4, ok_end T F4, FunD.bindsN F4 fun _ _ _ _ _ _ us hl => match us, hl with | [_], _ => rfl⟩⟩
  · intro s u ws hl
    obtain ⟨oc, od, dV, kV, doc, pm, an, cdv, ct, osl, rfl, lk, hcd, hD, hK⟩ := F2.ex
    rcases hD with ⟨_, rfl⟩ | ⟨e, _⟩
    · match ws, hl with
      | [a, b], _ => exact .of_eq rfl
    · exact absurd rfl e
  · intro s u ws hl
    obtain ⟨oc, od, dV, kV, doc, pm, an, cdv, ct, osl, rfl, lk, hcd, hD, hK⟩ := F3.ex
    rcases hD with ⟨_, rfl⟩ | ⟨e, _⟩
    · match ws, hl with
      | [a], _ => exact .of_eq rfl
    · exact absurd rfl e
end
end K2

/-! text K2CallR -/
set_option Elab.async false
set_option linter.all false
set_option maxRecDepth 100000
set_option maxHeartbeats 2000000
namespace K2
open PySem PySem.Spec PyProof.Rows L2 RV EV He EF EI Hd LamX Kw
/-! _law_called: its readings, branch by branch. -/
def tL1 (ta : TA) : TE := fun σ H Q => ta σ H fun xs H1 => xs.length ≤ sizeLine ∧ ∀ p, H1 p = none → p ≠ sysModules → Q (.ref p) (upd H1 p (.lst xs))
abbrev rIsNo : R2 := fun x y H Q => y = V.non ∧ Q (V.bl (decide (x = V.non))) H
abbrev rIsNt : R2 := fun x y H Q => y = V.non ∧ Q (V.bl (!decide (x = V.non))) H
def tHd (K : PySem.W.Frag) (t : XK → TE) : TE := tLam (TL K) (TTh K) t
def tIs0 (i : Nat) : TT := tTest (tOp rIsNo (tVar i) (tC .non))
def wv (ws : List Str) (t : Nat) : V := if t < ws.length then .str (ws.getD t "") else .non
/-- all but p and the tables stays -/
def KeepT (H H' : Hp) (p : Addr) : Prop := ∀ c o, c ≠ p → (∀ ps, o ≠ .tbl ps) → H c = some o → H' c = some o
theorem KeepT.two {H H1 H2 : Hp} {p : Addr} (a : KeepT H H1 p) (b : Same2 H1 H2 p) : KeepT H H2 p := fun c o hc hn e => b c o hc (a c o hc hn e)
theorem KeepT.ext {H H1 : Hp} {p : Addr} (a : ExtN H H1) : KeepT H H1 p := fun c o _ hn e => a c o e hn
theorem Same.to2 {H H' : Hp} {p : Addr} (s : Same H H') : Same2 H H' p := fun c o _ e => s c o e
theorem WO.ext {K : PySem.W.Frag} {H H1 : Hp} {p dx tp : Addr} {ws : List Str} {ln : Int} {t : Nat} (O : WO K H p dx tp ws ln t) (a : ExtN H H1) : WO K H1 p dx tp ws ln t := ⟨a _ _ O.ob (fun _ z => nomatch z), a _ _ O.ps (fun _ z => nomatch z), O.le, O.lz⟩
theorem tabs2 {T : List (Addr × Str)} {H H' : Hp} {p C dx : Addr} {fs : List (Str × V)} (t : Tabs T H) (hp : H p = some (.ins C dx fs)) (s : Same2 H H' p) : Tabs T H' := by
  intro q hq
  obtain ⟨ps, e, ok, k⟩ := t q hq
  refine ⟨ps, s _ _ (ne_of e hp (fun z => nomatch z)) e, ok, fun pos cv hc => ?_⟩
  obtain ⟨c, rfl, ec⟩ := k pos cv hc
  exact ⟨c, rfl, s _ _ (ne_of ec hp (fun z => nomatch z)) ec⟩
/-- what _law_called gives: what was heard, what is due -/
inductive Res (K : PySem.W.Frag) (H : Hp) (p dx tp : Addr) (ws : List Str) (ln : Int) (t : Nat) (h : Addr) : V → Prop
  | no : H h = some (.tup [.int ln, .int t]) → WO K H p dx tp ws ln t → Res K H p dx tp ws ln t h .non
  | word (a : Addr) (x : Str) : H h = some (.lst [.str x]) → h ≠ sysModules → H a = some (.lst [.str x]) → a ≠ sysModules → x ∈ wordsL → WO K H p dx tp ws ln (t + 1) → Res K H p dx tp ws ln t h (.ref a)
  | num (a : Addr) (x : Str) (b : Int × Int) (n : Int) : H h = some (.lst [.int n]) → h ≠ sysModules → H a = some (.lst [.int n]) → a ≠ sysModules → x ∈ wordsL → b ∈ bndsL → resL x b.1 b.2 = .int n → WO K H p dx tp ws ln (t + 1) → Res K H p dx tp ws ln t h (.ref a)
  | end_ (a : Addr) : H h = some (.lst [.non]) → h ≠ sysModules → H a = some (.lst [.non]) → a ≠ sysModules → WO K H p dx tp ws ln t → Res K H p dx tp ws ln t h (.ref a)
  | told (a u1 u2 : Addr) (b1 b2 b3 : Bool) : H h = some (.lst [.ref u1]) → h ≠ sysModules → H u1 = some (.lst [.bl b1, .bl b2, .bl b3]) → u1 ≠ sysModules → H a = some (.lst [.ref u2]) → a ≠ sysModules → H u2 = some (.lst [.bl b1, .bl b2, .bl b3]) → u2 ≠ sysModules →
      WO K H p dx tp ws ln t → Res K H p dx tp ws ln t h (.ref a)
/-- where a branch stands -/
structure CS (K : PySem.W.Frag) (σ : L2.St) (H : Hp) (p dx tp : Addr) (ws : List Str) (ln : Int) (t : Nat) (l : Addr) : Prop where
  s1 : σ[1]? = some (some (.ref p))
  s2 : σ[2]? = some (some (.ref l))
  s3 : σ[3]? = some (some (wv ws t))
  O : WO K H p dx tp ws ln t
  W : ∀ x ∈ ws, x ∈ wordsL
  L : H l = some (.lst ((ws.drop t).map V.str))
  T : Tabs (TL K) H
/-- what a branch may end with -/
def Fin (K : PySem.W.Frag) (H : Hp) (p dx tp : Addr) (ws : List Str) (ln : Int) (t : Nat) (Q : VK) : Prop := ∀ H' tr h dv, KeepT H H' p → Tabs (TL K) H' → H' tr = some (.tup [.ref h, dv]) → Res K H' p dx tp ws ln t h dv → Q (.ref tr) H'
section
variable {K : PySem.W.Frag} {σ : L2.St} {H : Hp} {p dx tp l : Addr} {ws : List Str} {ln : Int} {t : Nat} {Q : VK} {nx : L2.St → Hp → Prop}
/-- _law_heard of a call that takes the next word, or refuses it -/
theorem heard_out {tE : XK → TE} {b : Bool} {v : V} {Q1 : VK} (S : CS K σ H p dx tp ws ln t l) (call : ∀ (H1 : Hp) (E : XK) (Q' : VK), ExtN H H1 → WO K H1 p dx tp ws ln t → Out K H1 p dx tp ws ln t b v Q' E → tE E σ H1 Q')
    (yes : b = true → ∀ H' h, KeepT H H' p → Tabs (TL K) H' → WO K H' p dx tp ws ln (t + 1) → H' h = some (.lst [v]) → h ≠ sysModules → Q1 (.ref h) H')
    (no : b = false → ∀ H' h, KeepT H H' p → Tabs (TL K) H' → WO K H' p dx tp ws ln t → H' h = some (.tup [.int ln, .int t]) → Q1 (.ref h) H') : tHd K tE σ H Q1 := by
  refine ⟨S.T, fun H1 e1 T1 => call H1 _ _ e1 (S.O.ext e1) ⟨fun hb H2 s2 O2 => ⟨by show 1 ≤ sizeLine; decide, fun h nh sh => ?_⟩, fun hb H2 s2 d nd => ?_⟩⟩
  · have s3 := same_new (o := .lst [v]) nh
    exact yes hb _ h (((KeepT.ext e1).two s2).two (Same.to2 s3)) ((tabs2 T1 (S.O.ext e1).ob s2).ext s3) (O2.same s3) upd_same sh
  · refine ⟨d, .int ln, .int t, rfl, rfl, upd_same, fun r H3 s3 hr => ?_⟩
    have s4 := (s2.trans (same_new (o := .xd [("word", .int t), ("line", .int ln)]) nd)).trans s3
    exact no hb H3 r ((KeepT.ext e1).two (Same.to2 s4)) (T1.ext s4) ((S.O.ext e1).same s4) hr
theorem fin_tup {h : Addr} {dv : V} {H1 : Hp} (k : Fin K H p dx tp ws ln t Q) (kp : KeepT H H1 p) (T : Tabs (TL K) H1) (R : ∀ H', Same H1 H' → Res K H' p dx tp ws ln t h dv) : [V.ref h, dv].length ≤ sizeLine ∧ ∀ tr, H1 tr = none → Q (.ref tr) (upd H1 tr (.tup [.ref h, dv])) := by
  refine ⟨by show 2 ≤ sizeLine; decide, fun tr nt => ?_⟩
  have s := same_new (o := .tup [.ref h, dv]) nt
  exact k _ tr h dv (kp.two (Same.to2 s)) (T.ext s) upd_same (R _ s)
theorem wv_yes (h : t < ws.length) : wv ws t = .str (ws.getD t "") := if_pos h
theorem wv_no (h : ¬ t < ws.length) : wv ws t = .non := if_neg h
/-! take() -/
def tB0 (K : PySem.W.Frag) : TS := tRet (tTup (tCons (tHd K fun E' => tMethR (gW K) "take" (spStar (spTake0 K)) E' (tVar 1) tNil) (tCons (tIf (tIs0 3) (tC .non) (tL1 (tCons (tVar 3) tNil))) tNil)))
theorem read0 (S : CS K σ H p dx tp ws ln t l) (k : Fin K H p dx tp ws ln t Q) : tB0 K { nx := nx, rt := Q } σ H := by
  refine heard_out (b := nextB ws t []) (v := .str (ws.getD t "")) S (fun H1 E Q' e1 O1 o => ⟨_, S.s1, p, dx, _, rfl, O1.ob, rfl, tak_of [] O1 (by decide) o⟩) (fun hb H2 h kp T2 O2 hh sh => ?_) (fun hb H2 h kp T2 O2 hh => ?_)
  · have lt := nextB_lt hb
    refine ⟨_, S.s3, rfl, _, rfl, ?_⟩
    rw [wv_yes lt]
    refine if_negB (decide_eq_false fun z => nomatch z) ⟨_, S.s3, by show 1 ≤ sizeLine; decide, fun a na sa => ?_⟩
    rw [wv_yes lt]
    have s3 := same_new (o := .lst [V.str (ws.getD t "")]) na
    refine fin_tup k (kp.two (Same.to2 s3)) (T2.ext s3) fun H' s' => .word a (ws.getD t "") (s' _ _ (s3 _ _ hh)) sh (s' _ _ upd_same) sa (S.W _ (getD_mem lt)) ((O2.same s3).same s')
  · have ge : ¬ t < ws.length := fun h => by
      unfold nextB at hb
      rw [decide_eq_true h] at hb
      cases hb
    refine ⟨_, S.s3, rfl, _, rfl, ?_⟩
    rw [wv_no ge]
    exact if_posB (decide_eq_true rfl) (fin_tup k kp T2 fun H' s' => .no (s' _ _ hh) (O2.same s'))
theorem inV_wv (ss : List Str) (ne : ss ≠ []) : inV (wv ws t) (ss.map V.str) = nextB ws t ss := by
  have e : ss.isEmpty = false := by
    cases ss with
    | nil => exact absurd rfl ne
    | cons a b => rfl
  unfold nextB
  rw [e, Bool.false_or]
  by_cases h : t < ws.length
  · rw [wv_yes h, inV_str, decide_eq_true h, Bool.true_and]
  · rw [wv_no h, decide_eq_false h, Bool.false_and]
    unfold inV
    rw [List.any_eq_false]
    intro v hv
    obtain ⟨s, _, rfl⟩ := List.mem_map.mp hv
    exact fun z => nomatch z
theorem flat_wv : flatV (wv ws t) = true := by
  by_cases h : t < ws.length
  · rw [wv_yes h]; rfl
  · rw [wv_no h]; rfl
/-- the word is due: it stands in a list -/
theorem due_word {h : Addr} {H1 : Hp} (S : CS K σ H p dx tp ws ln t l) (k : Fin K H p dx tp ws ln t Q) (lt : t < ws.length) (kp : KeepT H H1 p) (T1 : Tabs (TL K) H1) (O1 : WO K H1 p dx tp ws ln (t + 1)) (hh : H1 h = some (.lst [.str (ws.getD t "")])) (sh : h ≠ sysModules) :
    tL1 (tCons (tVar 3) tNil) σ H1 fun v H2 => tNil σ H2 fun vs H3 => (V.ref h :: v :: vs).length ≤ sizeLine ∧ ∀ tr, H3 tr = none → Q (.ref tr) (upd H3 tr (.tup (V.ref h :: v :: vs))) := by
  refine ⟨_, S.s3, by show 1 ≤ sizeLine; decide, fun a na sa => ?_⟩
  rw [wv_yes lt]
  have s3 := same_new (o := .lst [V.str (ws.getD t "")]) na
  exact fin_tup k (kp.two (Same.to2 s3)) (T1.ext s3) fun H' s' => .word a (ws.getD t "") (s' _ _ (s3 _ _ hh)) sh (s' _ _ upd_same) sa (S.W _ (getD_mem lt)) ((O1.same s3).same s')
/-! take("to", "-", "f") -/
def tB1 (K : PySem.W.Frag) : TS := tRet (tTup (tCons (tHd K fun E' => tMethR (gW K) "take" (spStar (spTake0 K)) E' (tVar 1) (tCons (tC (.str "to")) (tCons (tC (.str "-")) (tCons (tC (.str "f")) tNil))))
  (tCons (tIf (tTest (tOp (rIn K false) (tVar 3) (tTup (tCons (tC (.str "to")) (tCons (tC (.str "-")) (tCons (tC (.str "f")) tNil)))))) (tL1 (tCons (tVar 3) tNil)) (tC .non)) tNil)))
theorem read1 (S : CS K σ H p dx tp ws ln t l) (k : Fin K H p dx tp ws ln t Q) : tB1 K { nx := nx, rt := Q } σ H := by
  refine heard_out (b := nextB ws t ["to", "-", "f"]) (v := .str (ws.getD t "")) S (fun H1 E Q' e1 O1 o => ⟨_, S.s1, p, dx, _, rfl, O1.ob, rfl, tak_of ["to", "-", "f"] O1 (by decide) o⟩) (fun hb H2 h kp T2 O2 hh sh => ?_) (fun hb H2 h kp T2 O2 hh => ?_)
  · refine ⟨_, S.s3, by show 3 ≤ sizeLine; decide, fun q nq => ⟨q, _, rfl, .inr (SqT.of upd_same), flat_wv, rfl, _, rfl, ?_⟩⟩
    have s3 := same_new (o := .tup [V.str "to", V.str "-", V.str "f"]) nq
    refine if_posB ((inV_wv ["to", "-", "f"] (by decide)).trans hb) ?_
    exact due_word S k (nextB_lt hb) (kp.two (Same.to2 s3)) (T2.ext s3) (O2.same s3) (s3 _ _ hh) sh
  · refine ⟨_, S.s3, by show 3 ≤ sizeLine; decide, fun q nq => ⟨q, _, rfl, .inr (SqT.of upd_same), flat_wv, rfl, _, rfl, ?_⟩⟩
    have s3 := same_new (o := .tup [V.str "to", V.str "-", V.str "f"]) nq
    exact if_negB ((inV_wv ["to", "-", "f"] (by decide)).trans hb) (fin_tup k (kp.two (Same.to2 s3)) (T2.ext s3) fun H' s' => .no (s' _ _ (s3 _ _ hh)) ((O2.same s3).same s'))
/-! take_fix() -/
def tB2 (K : PySem.W.Frag) : TS := tRet (tTup (tCons (tHd K fun E' => tMeth (gW K) "take_fix" (spTFix K) [] E' (tVar 1) tNil)
  (tCons (tIf (tOr (tIs0 3) (tNot (tB (tCall (spLFix K) [] E0 (tCons (tVar 3) tNil))))) (tC .non) (tL1 (tCons (tVar 3) tNil))) tNil)))
theorem words_len (W : ∀ x ∈ ws, x ∈ wordsL) : ∀ x ∈ ws, x.length ≤ 1000000 := fun x hx => Nat.le_trans (word_ok (W x hx)).1 (by decide)
theorem read2 (S : CS K σ H p dx tp ws ln t l) (k : Fin K H p dx tp ws ln t Q) : tB2 K { nx := nx, rt := Q } σ H := by
  refine heard_out (b := decide (t < ws.length) && isFixB (ws.getD t "")) (v := .str (ws.getD t "")) S (fun H1 E Q' e1 O1 o => ⟨_, S.s1, p, dx, _, rfl, O1.ob, rfl, p, dx, tp, ws, ln, t, rfl, O1, words_len S.W, o⟩) (fun hb H2 h kp T2 O2 hh sh => ?_) (fun hb H2 h kp T2 O2 hh => ?_)
  · have lt : t < ws.length := of_decide_eq_true (Bool.and_eq_true_iff.mp hb).1
    have w5 := word_ok (S.W _ (getD_mem lt))
    refine ⟨_, S.s3, rfl, _, rfl, ?_⟩
    rw [wv_yes lt]
    refine if_negB (decide_eq_false fun z => nomatch z) ⟨_, S.s3, ws.getD t "", by rw [wv_yes lt]; rfl, by omega, w5.2.2.2.2.1, fun H3 s3 => ⟨_, rfl, if_negB (by rw [(Bool.and_eq_true_iff.mp hb).2]; rfl) ?_⟩⟩
    exact due_word S k lt (kp.two (Same.to2 s3)) (T2.ext s3) (O2.same s3) (s3 _ _ hh) sh
  · refine ⟨_, S.s3, rfl, _, rfl, ?_⟩
    by_cases lt : t < ws.length
    · have w5 := word_ok (S.W _ (getD_mem lt))
      rw [decide_eq_true lt, Bool.true_and] at hb
      rw [wv_yes lt]
      refine if_negB (decide_eq_false fun z => nomatch z) ⟨_, S.s3, ws.getD t "", by rw [wv_yes lt]; rfl, by omega, w5.2.2.2.2.1, fun H3 s3 => ⟨_, rfl, if_posB (by rw [hb]; rfl) ?_⟩⟩
      exact fin_tup k (kp.two (Same.to2 s3)) (T2.ext s3) fun H' s' => .no (s' _ _ (s3 _ _ hh)) ((O2.same s3).same s')
    · rw [wv_no lt]
      exact if_posB (decide_eq_true rfl) (if_posB rfl (fin_tup k kp T2 fun H' s' => .no (s' _ _ hh) (O2.same s')))
/-! take_by(rule = _law_is_short) -/
def tB5 (K : PySem.W.Frag) : TS := tRet (tTup (tCons (tHd K fun E' => tMethKw (gW K) "take_by" (spBy K (ga K "_law_is_short") spShort) [0] 1 E' (tVar 1) (tCons (tC (.ref (ga K "_law_is_short"))) tNil))
  (tCons (tIf (tOr (tIs0 3) (tTest (tOp (rI0 fun i j => V.bl (decide (j < i))) (tCB (fun xs H Q => ∃ z, xs = [V.str z] ∧ z.length ≤ sizeLine ∧ Q (V.int ↑z.length) H) (tCons (tVar 3) tNil)) (tC (V.int 1))))) (tC .non) (tL1 (tCons (tVar 3) tNil))) tNil)))
theorem read5 (S : CS K σ H p dx tp ws ln t l) (k : Fin K H p dx tp ws ln t Q) : tB5 K { nx := nx, rt := Q } σ H := by
  refine heard_out (b := decide (t < ws.length) && decide (((ws.getD t "").length : Int) < 2)) (v := .str (ws.getD t "")) S (fun H1 E Q' e1 O1 o => ⟨_, S.s1, p, dx, _, rfl, O1.ob, rfl, rfl, p, dx, tp, ws, ln, t, rfl, O1, fun e H' s' => o.no (by rw [decide_eq_false (by omega)]; rfl) H' s', fun lt H3 Q3 s3 kq => ?_⟩)
    (fun hb H2 h kp T2 O2 hh sh => ?_) (fun hb H2 h kp T2 O2 hh => ?_)
  · have o2 := o.same s3
    rw [decide_eq_true lt, Bool.true_and] at o2
    exact ⟨_, rfl, words_len S.W _ (getD_mem lt), kq _ H3 (fun _ _ e => e) o2⟩
  · have lt : t < ws.length := of_decide_eq_true (Bool.and_eq_true_iff.mp hb).1
    have w5 := word_ok (S.W _ (getD_mem lt))
    have h2 := of_decide_eq_true (Bool.and_eq_true_iff.mp hb).2
    refine ⟨_, S.s3, rfl, _, rfl, ?_⟩
    rw [wv_yes lt]
    refine if_negB (decide_eq_false fun z => nomatch z) ⟨_, S.s3, ws.getD t "", by rw [wv_yes lt], by rw [sizeLine_eq]; omega, _, _, rfl, rfl, _, rfl, if_negB (decide_eq_false (by omega)) ?_⟩
    exact due_word S k lt kp T2 O2 hh sh
  · refine ⟨_, S.s3, rfl, _, rfl, ?_⟩
    by_cases lt : t < ws.length
    · have w5 := word_ok (S.W _ (getD_mem lt))
      rw [decide_eq_true lt, Bool.true_and] at hb
      have h2 := of_decide_eq_false hb
      rw [wv_yes lt]
      refine if_negB (decide_eq_false fun z => nomatch z) ⟨_, S.s3, ws.getD t "", by rw [wv_yes lt], by rw [sizeLine_eq]; omega, _, _, rfl, rfl, _, rfl, if_posB (decide_eq_true (by omega)) ?_⟩
      exact fin_tup k kp T2 fun H' s' => .no (s' _ _ hh) (O2.same s')
    · rw [wv_no lt]
      exact if_posB (decide_eq_true rfl) (if_posB rfl (fin_tup k kp T2 fun H' s' => .no (s' _ _ hh) (O2.same s')))
/-! refuse() -/
def tB7 (K : PySem.W.Frag) : TS := tRet (tTup (tCons (tHd K fun E' => tMeth (gW K) "refuse" (spRefuse K) [] E' (tVar 1) tNil) (tCons (tC .non) tNil)))
theorem read7 (S : CS K σ H p dx tp ws ln t l) (k : Fin K H p dx tp ws ln t Q) : tB7 K { nx := nx, rt := Q } σ H := by
  refine heard_out (b := false) (v := .non) S (fun H1 E Q' e1 O1 o => ⟨_, S.s1, p, dx, _, rfl, O1.ob, rfl, p, dx, tp, ws, ln, t, rfl, O1, o.no rfl H1 fun _ _ e => e⟩) (fun hb => nomatch hb) (fun hb H2 h kp T2 O2 hh => ?_)
  exact fin_tup k kp T2 fun H' s' => .no (s' _ _ hh) (O2.same s')
end
end K2

/-! text K2CallS -/
set_option Elab.async false
set_option linter.all false
set_option maxRecDepth 100000
set_option maxHeartbeats 2000000
namespace K2
open PySem PySem.Spec PyProof.Rows L2 RV EV He EF EI Hd LamX Kw
section
variable {K : PySem.W.Frag} {σ : L2.St} {H : Hp} {p dx tp l : Addr} {ws : List Str} {ln : Int} {t : Nat} {Q : VK} {nx : L2.St → Hp → Prop}
theorem CS.heap {H1 : Hp} (S : CS K σ H p dx tp ws ln t l) (s : Same H H1) : CS K σ H1 p dx tp ws ln t l := ⟨S.s1, S.s2, S.s3, S.O.same s, S.W, s _ _ S.L, S.T.ext s⟩
theorem Fin.heap {H1 : Hp} (k : Fin K H p dx tp ws ln t Q) (s : Same H H1) : Fin K H1 p dx tp ws ln t Q := fun H' tr h dv kp T1 e r => k H' tr h dv (fun c o hc hn e => kp c o hc hn (s c o e)) T1 e r
/-! take_number(least = .., most = ..) -/
def rv (ws : List Str) (t : Nat) (b : Int × Int) : V := if t < ws.length then resL (ws.getD t "") b.1 b.2 else .non
theorem rv_yes {b : Int × Int} (h : t < ws.length) : rv ws t b = resL (ws.getD t "") b.1 b.2 := if_pos h
theorem rv_no {b : Int × Int} (h : ¬ t < ws.length) : rv ws t b = .non := if_neg h
theorem res_int {x : Str} {lo hi : Int} (h : ¬ resL x lo hi = .non) : ∃ n, resL x lo hi = .int n := by
  unfold resL at h ⊢
  split at h
  · exact absurd rfl h
  · rename_i n e
    unfold inB at h ⊢
    by_cases c : lo ≤ n ∧ n ≤ hi
    · exact ⟨n, if_pos c⟩
    · rw [if_neg c] at h
      exact absurd rfl h
def tB3a (K : PySem.W.Frag) : TS := tRet (tTup (tCons (tHd K fun E' => tMethKw (gW K) "take_number" (spTNum K) [0, 1] 2 E' (tVar 1) (tCons (tVar 8) (tCons (tVar 7) tNil))) (tCons (tIf (tIs0 5) (tC .non) (tL1 (tCons (tVar 5) tNil))) tNil)))
def tB3 (K : PySem.W.Frag) : TS := tSeq (tAsg (tIf (tIs0 3) (tC .non) (tCall (spLNum K) [] E0 (tCons (tVar 3) (tCons (tVar 8) (tCons (tVar 7) tNil))))) (gName 5)) (tB3a K)
theorem read3a {b : Int × Int} (S : CS K σ H p dx tp ws ln t l) (h7 : σ[7]? = some (some (.int b.2))) (h8 : σ[8]? = some (some (.int b.1))) (hb : b ∈ bndsL) (h5 : σ[5]? = some (some (rv ws t b))) (k : Fin K H p dx tp ws ln t Q) : tB3a K { nx := nx, rt := Q } σ H := by
  refine heard_out (b := !decide (rv ws t b = .non)) (v := rv ws t b) S (fun H1 E Q' e1 O1 o => ⟨_, S.s1, p, dx, _, rfl, O1.ob, rfl, _, h8, _, h7, rfl, p, dx, tp, ws, ln, t, b.1, b.2, rv ws t b, rfl, O1, fun e => rv_no (by omega), fun lt => ?_, o⟩)
    (fun hc H2 h kp T2 O2 hh sh => ?_) (fun hc H2 h kp T2 O2 hh => ?_)
  · rw [rv_yes lt]
    exact num_at (S.W _ (getD_mem lt)) hb
  · have ne : ¬ rv ws t b = .non := fun z => by
      rw [decide_eq_true z] at hc
      cases hc
    refine ⟨_, h5, rfl, _, rfl, if_negB (decide_eq_false ne) ⟨_, h5, by show 1 ≤ sizeLine; decide, fun a na sa => ?_⟩⟩
    have lt : t < ws.length := by
      by_cases lt : t < ws.length
      · exact lt
      · exact absurd (rv_no lt) ne
    obtain ⟨n, en⟩ := res_int (x := ws.getD t "") (lo := b.1) (hi := b.2) (by rw [← rv_yes lt]; exact ne)
    rw [rv_yes lt, en] at hh ⊢
    have s3 := same_new (o := .lst [V.int n]) na
    exact fin_tup k (kp.two (Same.to2 s3)) (T2.ext s3) fun H' s' => .num a (ws.getD t "") b n (s' _ _ (s3 _ _ hh)) sh (s' _ _ upd_same) sa (S.W _ (getD_mem lt)) hb en ((O2.same s3).same s')
  · have e : rv ws t b = .non := by
      by_cases e : rv ws t b = .non
      · exact e
      · rw [decide_eq_false e] at hc
        cases hc
    exact ⟨_, h5, rfl, _, rfl, if_posB (decide_eq_true e) (fin_tup k kp T2 fun H' s' => .no (s' _ _ hh) (O2.same s'))⟩
theorem read3 {b : Int × Int} (S : CS K σ H p dx tp ws ln t l) (h7 : σ[7]? = some (some (.int b.2))) (h8 : σ[8]? = some (some (.int b.1))) (hb : b ∈ bndsL) (h5 : 5 < σ.length) (k : Fin K H p dx tp ws ln t Q) : tB3 K { nx := nx, rt := Q } σ H := by
  have g : ∀ {i : Nat} {u : Option V} (v : Option V), i ≠ 5 → σ[i]? = some u → (σ.set 5 v)[i]? = some u := fun {i u} v hi e => by rw [List.getElem?_set_ne (Ne.symm hi)]; exact e
  have go : ∀ H1, Same H H1 → tB3a K { nx := nx, rt := Q } (σ.set 5 (some (rv ws t b))) H1 := fun H1 s1 =>
    read3a (b := b) ⟨g _ (by decide) S.s1, g _ (by decide) S.s2, g _ (by decide) S.s3, S.O.same s1, S.W, s1 _ _ S.L, S.T.ext s1⟩ (g _ (by decide) h7) (g _ (by decide) h8) hb (List.getElem?_set_self h5) (k.heap s1)
  refine ⟨_, S.s3, rfl, _, rfl, ?_⟩
  by_cases lt : t < ws.length
  · rw [wv_yes lt]
    have w5 := word_ok (S.W _ (getD_mem lt))
    refine if_negB (decide_eq_false fun z => nomatch z) ⟨_, S.s3, _, h8, _, h7, ws.getD t "", b.1, b.2, by rw [wv_yes lt]; rfl, by omega, w5.2.2.1, w5.2.2.2.1, fun H1 s1 => ?_⟩
    have z := go H1 s1
    rw [rv_yes lt] at z
    exact z
  · rw [wv_no lt]
    refine if_posB (decide_eq_true rfl) ?_
    have z := go H fun _ _ e => e
    rw [rv_no lt] at z
    exact z
/-! end() -/
theorem canLay_w : ∀ ss : List Str, (∀ x ∈ ss, PyData.strOk x = true) → PyData.canLayAll0 (ss.map PyData.str) = true
  | [], _ => by simp only [List.map_nil, PyData.canLayAll0]
  | x :: ss, h => by simp only [List.map_cons, PyData.canLayAll0, PyData.canLay0, h x List.mem_cons_self, canLay_w ss fun y hy => h y (List.mem_cons_of_mem _ hy), Bool.and_self]
theorem depth_w : ∀ ss : List Str, PyData.depthAll (ss.map PyData.str) = 0
  | [] => by simp only [List.map_nil, PyData.depthAll]
  | x :: ss => by simp [PyData.depthAll, PyData.depth, depth_w ss]
theorem shaped_w (ss : List Str) (h : ∀ x ∈ ss, PyData.strOk x = true) : SeqAt.shaped (.list (ss.map PyData.str)) = true := by
  simp [SeqAt.shaped, PyData.canLay0, PyData.depth, canLay_w ss h, depth_w]
theorem dp_w {H : Hp} : ∀ ss : List Str, DpAll K H (ss.map V.str) (ss.map PyData.str)
  | [] => .nil
  | x :: ss => .cons (.str x) (dp_w ss)
theorem words_str (W : ∀ x ∈ ws, x ∈ wordsL) : ∀ x ∈ ws, PyData.strOk x = true := fun x hx => (word_ok (W x hx)).2.2.2.2.2.2
def tB6 (K : PySem.W.Frag) : TS := tRet (tTup (tCons (tHd K fun E' => tMeth (gW K) "end" (spEnd K) [] E' (tVar 1) tNil) (tCons (tIf (tTest (tOp (rEqD K) (tVar 2) (tLst tNil))) (tL1 (tCons (tC .non) tNil)) (tC .non)) tNil)))
theorem left_end {H1 : Hp} {R : V → Hp → Prop} (S : CS K σ H p dx tp ws ln t l) (kp : KeepT H H1 p) (k1 : t = ws.length → ∀ H2, Same H1 H2 → R (.bl true) H2) (k2 : t < ws.length → ∀ H2, Same H1 H2 → R (.bl false) H2) : tOp (rEqD K) (tVar 2) (tLst tNil) σ H1 R := by
  have hl : H1 l = some (.lst ((ws.drop t).map V.str)) := kp l _ (ne_of S.L S.O.ob (fun z => nomatch z)) (fun _ z => nomatch z) S.L
  refine ⟨_, S.s2, Nat.zero_le _, fun q nq => ?_⟩
  have s := same_new (o := .lst []) nq
  refine ⟨.list ((ws.drop t).map PyData.str), .list [], .lst (SqL.of (s _ _ hl)) (dp_w _), .lst (SqL.of upd_same) .nil, shaped_w _ fun x hx => words_str S.W x (List.mem_of_mem_drop hx), by decide, ?_⟩
  rw [eqv_nil]
  by_cases lt : t < ws.length
  · have e : ((ws.drop t).map PyData.str).isEmpty = false := by
      cases h : ws.drop t with
      | nil =>
        have := List.drop_eq_nil_iff.mp h
        omega
      | cons a b => rfl
    rw [e]
    exact k2 lt _ s
  · have := S.O.le
    have e : ((ws.drop t).map PyData.str).isEmpty = true := by
      rw [List.drop_eq_nil_iff.mpr (by omega)]
      rfl
    rw [e]
    exact k1 (by omega) _ s
theorem read6 (S : CS K σ H p dx tp ws ln t l) (k : Fin K H p dx tp ws ln t Q) : tB6 K { nx := nx, rt := Q } σ H := by
  refine ⟨S.T, fun H1 e1 T1 => ?_⟩
  have O1 := S.O.ext e1
  refine ⟨_, S.s1, p, dx, _, rfl, O1.ob, rfl, p, dx, tp, ws, ln, t, rfl, O1, fun e H2 s2 => ⟨by show 1 ≤ sizeLine; decide, fun h nh sh => ?_⟩, fun lt H2 s2 d nd => ⟨d, .int ln, .int t, rfl, rfl, upd_same, fun h H3 s3 hr => ?_⟩⟩
  · have s3 := s2.trans (same_new (o := .lst [V.non]) nh)
    have kp : KeepT H (upd H2 h (.lst [V.non])) p := (KeepT.ext e1).two (Same.to2 s3)
    refine left_end S kp (fun _ H4 s4 => ⟨_, rfl, if_posB rfl ⟨by show 1 ≤ sizeLine; decide, fun a na sa => ?_⟩⟩) fun lt => by omega
    have s5 := s4.trans (same_new (o := .lst [V.non]) na)
    exact fin_tup k (kp.two (Same.to2 s5)) ((T1.ext s3).ext s5) fun H' s' => .end_ a (s' _ _ (s5 _ _ upd_same)) sh (s' _ _ upd_same) sa (((O1.same s3).same s5).same s')
  · have s4 := (s2.trans (same_new (o := .xd [("word", .int t), ("line", .int ln)]) nd)).trans s3
    have kp : KeepT H H3 p := (KeepT.ext e1).two (Same.to2 s4)
    refine left_end S kp (fun e => by omega) fun _ H5 s5 => ⟨_, rfl, if_negB rfl ?_⟩
    exact fin_tup k (kp.two (Same.to2 s5)) ((T1.ext s4).ext s5) fun H' s' => .no (s' _ _ (s5 _ _ hr)) (((O1.same s4).same s5).same s')
/-! is_next -/
def tB8b (K : PySem.W.Frag) : TS := tRet (tTup (tCons (tL1 (tCons (tVar 6) tNil)) (tCons (tL1 (tCons (tL1 (tCons (tOp rIsNt (tVar 3) (tC .non)) (tCons (tOp (rIn K false) (tVar 3) (tTup (tCons (tC (.str "to")) (tCons (tC (.str "1")) tNil)))) (tCons (tOp rEq (tVar 3) (tC (.str "-"))) tNil)))) tNil)) tNil)))
def tB8 (K : PySem.W.Frag) : TS := tSeq (tAsg (tL1 (tCons (tMethR (gW K) "is_next" (spStar (spNext0 K)) E0 (tVar 1) tNil) (tCons (tMethR (gW K) "is_next" (spStar (spNext0 K)) E0 (tVar 1) (tCons (tC (.str "to")) (tCons (tC (.str "1")) tNil)))
  (tCons (tMethR (gW K) "is_next" (spStar (spNext0 K)) E0 (tVar 1) (tCons (tC (.str "-")) tNil)) tNil)))) (gName 6)) (tB8b K)
theorem is_dash : (decide (wv ws t = .str "-")) = nextB ws t ["-"] := by
  have e := inV_wv (ws := ws) (t := t) ["-"] (by decide)
  rw [← e]
  show decide (wv ws t = .str "-") = (([V.str "-"] : List V).any fun y => eqV y (wv ws t))
  rw [List.any_cons, List.any_nil, Bool.or_false]
  by_cases h : t < ws.length
  · rw [wv_yes h]
    show _ = decide (("-" : Str) = ws.getD t "")
    refine decide_eq_decide.mpr ⟨fun z => (V.str.inj z).symm, fun z => by rw [← z]⟩
  · rw [wv_no h]
    rfl
theorem scal_wv (z : Str) : scal (wv ws t) (.str z) = true := by
  by_cases h : t < ws.length
  · rw [wv_yes h]; rfl
  · rw [wv_no h]; rfl
theorem is_there : (!decide (wv ws t = .non)) = nextB ws t [] := by
  unfold nextB
  by_cases h : t < ws.length
  · rw [wv_yes h, decide_eq_true h]
    rfl
  · rw [wv_no h, decide_eq_false h]
    rfl
theorem read8 (S : CS K σ H p dx tp ws ln t l) (h6 : 6 < σ.length) (k : Fin K H p dx tp ws ln t Q) : tB8 K { nx := nx, rt := Q } σ H := by
  refine ⟨_, S.s1, p, dx, _, rfl, S.O.ob, rfl, nxt_of [] S.O (by decide) fun H1 s1 => ?_⟩
  refine ⟨_, S.s1, p, dx, _, rfl, (S.O.same s1).ob, rfl, nxt_of ["to", "1"] (S.O.same s1) (by decide) fun H2 s2 => ?_⟩
  have s2 := s1.trans s2
  refine ⟨_, S.s1, p, dx, _, rfl, (S.O.same s2).ob, rfl, nxt_of ["-"] (S.O.same s2) (by decide) fun H3 s3 => ⟨by show 3 ≤ sizeLine; decide, fun u1 n1 y1 => ?_⟩⟩
  have s3 := s2.trans s3
  have g : ∀ {i : Nat} {u : Option V} (v : Option V), i ≠ 6 → σ[i]? = some u → (σ.set 6 v)[i]? = some u := fun {i u} v hi e => by rw [List.getElem?_set_ne (Ne.symm hi)]; exact e
  have s4 := s3.trans (same_new (o := .lst [.bl (nextB ws t []), .bl (nextB ws t ["to", "1"]), .bl (nextB ws t ["-"])]) n1)
  refine ⟨_, List.getElem?_set_self h6, by show 1 ≤ sizeLine; decide, fun h nh sh => ?_⟩
  have s5 := same_new (o := .lst [V.ref u1]) nh
  refine ⟨_, g _ (by decide) S.s3, rfl, _, g _ (by decide) S.s3, by show 2 ≤ sizeLine; decide, fun q nq => ⟨q, _, rfl, .inr (SqT.of upd_same), flat_wv, rfl, _, g _ (by decide) S.s3, scal_wv _, by show 3 ≤ sizeLine; decide, fun u2 n2 y2 => ⟨by show 1 ≤ sizeLine; decide, fun a na sa => ?_⟩⟩⟩
  have s6 := same_new (o := .tup [V.str "to", V.str "1"]) nq
  have ev : ([V.bl (!decide (wv ws t = .non)), V.bl (inV (wv ws t) [V.str "to", V.str "1"]), V.bl (decide (wv ws t = .str "-"))] : List V) = [.bl (nextB ws t []), .bl (nextB ws t ["to", "1"]), .bl (nextB ws t ["-"])] := by
    rw [is_there, is_dash]
    have e := inV_wv (ws := ws) (t := t) ["to", "1"] (by decide)
    rw [← e]
    rfl
  have s7 := same_new (o := .lst [V.bl (!decide (wv ws t = .non)), V.bl (inV (wv ws t) [V.str "to", V.str "1"]), V.bl (decide (wv ws t = .str "-"))]) n2
  have s8 := same_new (o := .lst [V.ref u2]) na
  have sa2 := (s6.trans s7).trans s8
  have all := (s4.trans s5).trans sa2
  refine fin_tup k (fun c o hc hn e => all c o e) (S.T.ext all) fun H' s' => .told a u1 u2 (nextB ws t []) (nextB ws t ["to", "1"]) (nextB ws t ["-"]) (s' _ _ (sa2 _ _ upd_same)) sh (s' _ _ (sa2 _ _ (s5 _ _ upd_same))) y1 (s' _ _ upd_same) sa (s' _ _ (s8 _ _ ?_)) y2 (((S.O.same all)).same s')
  rw [← ev]
  exact upd_same
end
end K2

/-! text K2CallB -/
set_option Elab.async false
set_option linter.all false
set_option maxRecDepth 100000
set_option maxHeartbeats 4000000
namespace K2
open PySem PySem.Spec PyProof.Rows L2 RV EV He EF EI Hd LamX Kw
def tBnds : TA := tCons (tTup (tCons (tC (.int 0)) (tCons (tC (.int 9)) tNil))) (tCons (tTup (tCons (tC (.int 1)) (tCons (tC (.int 6)) tNil))) (tCons (tTup (tCons (tUn (rU fun i => V.int (-i)) (tC (.int 5))) (tCons (tC (.int 5)) tNil)))
  (tCons (tTup (tCons (tC (.int 0)) (tCons (tOp (rI CPow fun i j => V.int (i ^ j.toNat)) (tC (.int 10)) (tC (.int 30))) tNil))) (tCons (tTup (tCons (tC (.int 1)) (tCons (tC (.int 1)) tNil)))
  (tCons (tTup (tCons (tUn (rU fun i => V.int (-i)) (tOp (rI CPow fun i j => V.int (i ^ j.toNat)) (tC (.int 10)) (tC (.int 39)))) (tCons (tOp (rI CPow fun i j => V.int (i ^ j.toNat)) (tC (.int 10)) (tC (.int 39))) tNil))) tNil)))))
def tIsW (i : Int) : TT := tTest (tOp rEq (tVar 4) (tC (.int i)))
def tWays (K : PySem.W.Frag) : TS := tSeq (tIfS (tIsW 0) (tB0 K) tNext) (tSeq (tIfS (tIsW 1) (tB1 K) tNext) (tSeq (tIfS (tIsW 2) (tB2 K) tNext) (tSeq (tIfS (tTest (tOp (rI0 fun i j => V.bl (decide (i < j))) (tVar 4) (tC (.int 5)))) (tB3 K) tNext)
  (tSeq (tIfS (tIsW 5) (tB5 K) tNext) (tSeq (tIfS (tIsW 6) (tB6 K) tNext) (tSeq (tIfS (tIsW 7) (tB7 K) tNext) (tB8 K)))))))
def tCalled (K : PySem.W.Frag) : TS := tSeq (tPar 3 4 (tCons (tIf (tTest (tOp (rNeD K) (tVar 2) (tLst tNil))) (tOp (rIxL K) (tVar 2) (tC (.int 0))) (tC .non)) (tCons (tCall spDraw [] E0 (tCons (tVar 0) (tCons (tC (.int 9)) tNil))) tNil)))
  (tSeq (tAsg (tCall spPick [] E0 (tCons (tVar 0) (tCons (tLst tBnds) tNil))) (gTup K 2 (gCons (gName 8) (gCons (gName 7) gNil)))) (tWays K))
section
variable {P : Program} {w : World} {K : PySem.W.Frag} {mg : Str → Option Value} {base : Heap}
theorem code_called (T : KF P w K mg base) (TB : TabB base mg (cC K).1 (cC K).2) {f : Addr} {A : Around} {outer : List Env} {s : Shared} {H : Hp} {E : XK} {cdv : Value} (hcd : cdv = .ref (cC K).1) (hr : Room 7 (A.deeper (envOfC "_law_called" (defScope sCalled) s.heap.objs.size f cdv))) :
    PSs (cxOf CX0 P w K mg base scCa_N "_law_called" (defScope sCalled) f cdv A outer s H E) (defBody sCalled) (tCalled K) := by
  obtain ⟨⟨fD, GD, bD, kD, gD⟩, ⟨fP, GP, bP, kP, gP⟩, ⟨fF, GF, bF, kF, gF⟩, ⟨fN, GN, bN, kN, gN⟩, ⟨fS, GS, bS, kS, gS⟩⟩ := cc T
  obtain ⟨mT, ⟨f1, G1, b1⟩, ⟨f2, G2, b2, b2k⟩, ⟨f3, G3, b3k⟩, ⟨f4, G4, b4⟩⟩ := mm T
  obtain ⟨nx, _, ⟨fR, GR, bR⟩⟩ := mc T
  have hu := hr.units
  have nd := scCa.nd
  have hm : ((cC K).2, qC) ∈ TL K := List.mem_cons_self
  have hu2 := tlC T
  exact PSs.nox (pss_cons (ps_par (i := 3) (j := 4) rfl nd rfl rfl (by decide) rfl rfl (pa_cons (pe_ifExp (pt_cmpR (op_neD hu) (pv 2) (pe_lst pa_nil) (nomark _)) (pe_ix ix_list (pv 2) pe_int (fun _ _ => rfl)) pe_non) (pa_cons (pe_call (E := E0) GD (hr.mono (by decide)) (by rfl) gD kD bD .nil pass0 (pa_cons (pv 0) (pa_cons pe_int pa_nil))) pa_nil)) (by rfl))
    (pss_cons (ps_asg (pe_call (E := E0) GP (hr.mono (by decide)) (by rfl) gP kP bP .nil pass0 (pa_cons (pv 0) (pa_cons (pe_lst (pa_cons (pe_tup (pa_cons pe_int (pa_cons pe_int pa_nil))) (pa_cons (pe_tup (pa_cons pe_int (pa_cons pe_int pa_nil))) (pa_cons (pe_tup (pa_cons (pe_un un_neg pe_int) (pa_cons pe_int pa_nil)))
        (pa_cons (pe_tup (pa_cons pe_int (pa_cons (pe_op op_pow pe_int pe_int) pa_nil))) (pa_cons (pe_tup (pa_cons pe_int (pa_cons pe_int pa_nil))) (pa_cons (pe_tup (pa_cons (pe_un un_neg (pe_op op_pow pe_int pe_int)) (pa_cons (pe_op op_pow pe_int pe_int) pa_nil))) pa_nil))))))) pa_nil)))
      (pg_tup (by rfl) (pgs_cons (pg_name (i := 8) nd rfl (.inr rfl)) (pgs_cons (pg_name (i := 7) nd rfl (.inr rfl)) pgs_nil))))
    (pss_cons (ps_if (pt_cmpR op_eq (pv 4) pe_int (nomark _)) (pss_one (ps_ret (pe_tup (pa_cons (pe_heard (k := 5) (t := fun E' => tMethR (gW K) "take" (spStar (spTake0 K)) E' (tVar 1) tNil) T TB hcd hm hu2 (by rfl) hr (lamS_by (by show lamSB (defScope sCalled) _ = true; decide +kernel)) rfl (fun _ _ _ _ _ => rfl)
          (fun A2 out2 s2 H2 E2 f2 c2 hr2 => pe_meth0R (pv 1) T.cl (mt T ("take", 6) (by decide)) mT (hr2.mono (by decide)) (passes_call (takes_of rfl rfl rfl rfl) fun _ _ _ _ h => h)))
        (pa_cons (pe_ifExp (pt_cmpR op_isN (pv 3) pe_non (nomark _)) pe_non (pe_lst1 (pa_cons (pv 3) pa_nil))) pa_nil))))) pss_nil)
    (pss_cons (ps_if (pt_cmpR op_eq (pv 4) pe_int (nomark _)) (pss_one (ps_ret (pe_tup (pa_cons (pe_heard (k := 5) (t := fun E' => tMethR (gW K) "take" (spStar (spTake0 K)) E' (tVar 1) (tCons (tC (.str "to")) (tCons (tC (.str "-")) (tCons (tC (.str "f")) tNil)))) T TB hcd hm hu2 (by rfl) hr (lamS_by (by show lamSB (defScope sCalled) _ = true; decide +kernel)) rfl (fun _ _ _ _ _ => rfl)
          (fun A2 out2 s2 H2 E2 f2 c2 hr2 => pe_methR (pv 1) T.cl (mt T ("take", 6) (by decide)) mT (hr2.mono (by decide)) (passes_call (takes_of rfl rfl rfl rfl) fun _ _ _ _ h => h) (pa_cons pe_str (pa_cons pe_str (pa_cons pe_str pa_nil)))))
        (pa_cons (pe_ifExp (pt_cmpR op_in_seq (pv 3) (pe_tup (pa_cons pe_str (pa_cons pe_str (pa_cons pe_str pa_nil)))) rfl) (pe_lst1 (pa_cons (pv 3) pa_nil)) pe_non) pa_nil))))) pss_nil)
    (pss_cons (ps_if (pt_cmpR op_eq (pv 4) pe_int (nomark _)) (pss_one (ps_ret (pe_tup (pa_cons (pe_heard (k := 5) (t := fun E' => tMeth (gW K) "take_fix" (spTFix K) [] E' (tVar 1) tNil) T TB hcd hm hu2 (by rfl) hr (lamS_by (by show lamSB (defScope sCalled) _ = true; decide +kernel)) rfl (fun _ _ _ _ _ => rfl)
          (fun A2 out2 s2 H2 E2 f2 c2 hr2 => pe_meth0 (pv 1) T.cl (mt T ("take_fix", 7) (by decide)) G1 hr2 b1 .nil (passes_call (takes_of rfl rfl rfl rfl) fun _ _ _ _ h => h)))
        (pa_cons (pe_ifExp (PW.pt (pw_or (pt_cmpR op_isN (pv 3) pe_non (nomark _)) (pw_or1 (pt_not (pt_val (pe_call (E := E0) GF (hr.mono (by decide)) (by rfl) gF kF bF .nil pass0 (pa_cons (pv 3) pa_nil))))))) pe_non (pe_lst1 (pa_cons (pv 3) pa_nil))) pa_nil))))) pss_nil)
    (pss_cons (ps_if (pt_cmpR op_lt (pv 4) pe_int (nomark _)) (pss_cons (ps_set (i := 5) nd rfl (.inl rfl) (pe_ifExp (pt_cmpR op_isN (pv 3) pe_non (nomark _)) pe_non (pe_call (E := E0) GN (hr.mono (by decide)) (by rfl) gN kN bN .nil pass0 (pa_cons (pv 3) (pa_cons (pv 8) (pa_cons (pv 7) pa_nil))))))
        (pss_one (ps_ret (pe_tup (pa_cons (pe_heard (k := 5) (t := fun E' => tMethKw (gW K) "take_number" (spTNum K) [0, 1] 2 E' (tVar 1) (tCons (tVar 8) (tCons (tVar 7) tNil))) T TB hcd hm hu2 (by rfl) hr (lamS_by (by show lamSB (defScope sCalled) _ = true; decide +kernel)) rfl (fun _ _ _ _ _ => rfl)
          (fun A2 out2 s2 H2 E2 f2 c2 hr2 => pe_methKw (pv 1) T.cl (mt T ("take_number", 8) (by decide)) G2 (hr2.mono (by decide)) b2k (passes_call (takes_of rfl rfl rfl rfl) fun _ _ _ _ h => h) (pk_cons (pv 8) (pk_cons (pv 7) pk_nil))))
        (pa_cons (pe_ifExp (pt_cmpR op_isN (pv 5) pe_non (nomark _)) pe_non (pe_lst1 (pa_cons (pv 5) pa_nil))) pa_nil)))))) pss_nil)
    (pss_cons (ps_if (pt_cmpR op_eq (pv 4) pe_int (nomark _)) (pss_one (ps_ret (pe_tup (pa_cons (pe_heard (k := 5) (t := fun E' => tMethKw (gW K) "take_by" (spBy K (ga K "_law_is_short") spShort) [0] 1 E' (tVar 1) (tCons (tC (.ref (ga K "_law_is_short"))) tNil)) T TB hcd hm hu2 (by rfl) hr (lamS_by (by show lamSB (defScope sCalled) _ = true; decide +kernel)) rfl (fun _ _ _ _ _ => rfl)
          (fun A2 out2 s2 H2 E2 f2 c2 hr2 => pe_methKw (pv 1) T.cl (mt T ("take_by", 9) (by decide)) G3 (hr2.mono (by decide)) b3k (passes_call (takes_of rfl rfl rfl rfl) fun _ _ _ _ h => h) (pk_cons (pe_glob (v := .ref (ga K "_law_is_short")) (by rfl) gS rfl) pk_nil)))
        (pa_cons (pe_ifExp (PW.pt (pw_or (pt_cmpR op_isN (pv 3) pe_non (nomark _)) (pw_or1 (pt_cmpR op_gt (pe_callB call_len_str (by rfl) (T.fr "len" (by decide)) PySem.boot_len (pa_cons (pv 3) pa_nil)) pe_int (nomark _))))) pe_non (pe_lst1 (pa_cons (pv 3) pa_nil))) pa_nil))))) pss_nil)
    (pss_cons (ps_if (pt_cmpR op_eq (pv 4) pe_int (nomark _)) (pss_one (ps_ret (pe_tup (pa_cons (pe_heard (k := 5) (t := fun E' => tMeth (gW K) "end" (spEnd K) [] E' (tVar 1) tNil) T TB hcd hm hu2 (by rfl) hr (lamS_by (by show lamSB (defScope sCalled) _ = true; decide +kernel)) rfl (fun _ _ _ _ _ => rfl)
          (fun A2 out2 s2 H2 E2 f2 c2 hr2 => pe_meth0 (pv 1) T.cl (mt T ("end", 13) (by decide)) G4 (hr2.mono (by decide)) b4 .nil (passes_call (takes_of rfl rfl rfl rfl) fun _ _ _ _ h => h)))
        (pa_cons (pe_ifExp (pt_cmpR (op_eqD hu) (pv 2) (pe_lst pa_nil) (nomark _)) (pe_lst1 (pa_cons pe_non pa_nil)) pe_non) pa_nil))))) pss_nil)
    (pss_cons (ps_if (pt_cmpR op_eq (pv 4) pe_int (nomark _)) (pss_one (ps_ret (pe_tup (pa_cons (pe_heard (k := 5) (t := fun E' => tMeth (gW K) "refuse" (spRefuse K) [] E' (tVar 1) tNil) T TB hcd hm hu2 (by rfl) hr (lamS_by (by show lamSB (defScope sCalled) _ = true; decide +kernel)) rfl (fun _ _ _ _ _ => rfl)
          (fun A2 out2 s2 H2 E2 f2 c2 hr2 => pe_meth0 (pv 1) T.cl (mt T ("refuse", 11) (by decide)) GR (hr2.mono (by decide)) bR .nil (passes_call (takes_of rfl rfl rfl rfl) fun _ _ _ _ h => h)))
        (pa_cons pe_non pa_nil))))) pss_nil)
    (pss_cons (ps_set (i := 6) nd rfl (.inl rfl) (pe_lst1 (pa_cons (pe_meth0R (E := E0) (pv 1) T.cl (mt T ("is_next", 5) (by decide)) nx (hr.mono (by decide)) pass0) (pa_cons (pe_methR (E := E0) (pv 1) T.cl (mt T ("is_next", 5) (by decide)) nx (hr.mono (by decide)) pass0 (pa_cons pe_str (pa_cons pe_str pa_nil)))
        (pa_cons (pe_methR (E := E0) (pv 1) T.cl (mt T ("is_next", 5) (by decide)) nx (hr.mono (by decide)) pass0 (pa_cons pe_str pa_nil)) pa_nil)))))
    (pss_one (ps_ret (pe_tup (pa_cons (pe_lst1 (pa_cons (pv 6) pa_nil)) (pa_cons (pe_lst1 (pa_cons (pe_lst1 (pa_cons (pe_cmpR op_notN (pv 3) pe_non (nomark _)) (pa_cons (pe_cmpR op_in_seq (pv 3) (pe_tup (pa_cons pe_str (pa_cons pe_str pa_nil))) rfl) (pa_cons (pe_cmpR op_eq (pv 3) pe_str (nomark _)) pa_nil)))) pa_nil)) pa_nil)))))))))))))))
end
end K2

/-! text K2CallE -/
set_option Elab.async false
set_option linter.all false
set_option maxRecDepth 100000
set_option maxHeartbeats 2000000
namespace K2
open PySem PySem.Spec PyProof.Rows L2 RV EV He EF EI Hd LamX Kw
section
variable {K : PySem.W.Frag} {σ : L2.St} {H : Hp} {p dx tp l : Addr} {ws : List Str} {ln : Int} {t : Nat} {Q : VK} {nx : L2.St → Hp → Prop}
theorem isW {i r : Int} {A B : TS} {D : Ends} (h4 : σ[4]? = some (some (.int r))) (a : r = i → A D σ H) (b : r ≠ i → B D σ H) : tIfS (tIsW i) A B D σ H := by
  refine ⟨_, h4, rfl, _, rfl, ?_⟩
  by_cases e : r = i
  · exact if_posB (decide_eq_true (by rw [e])) (a e)
  · exact if_negB (decide_eq_false fun z => e (V.int.inj z)) (b e)
theorem ways_read {r : Int} {b : Int × Int} (S : CS K σ H p dx tp ws ln t l) (h4 : σ[4]? = some (some (.int r))) (r9 : r < 9) (r0 : 0 ≤ r) (h7 : σ[7]? = some (some (.int b.2))) (h8 : σ[8]? = some (some (.int b.1))) (hb : b ∈ bndsL) (k : Fin K H p dx tp ws ln t Q) : tWays K { nx := nx, rt := Q } σ H := by
  have l8 := (List.getElem?_eq_some_iff.mp h8).1
  refine isW h4 (fun _ => read0 S k) fun n0 => isW h4 (fun _ => read1 S k) fun n1 => isW h4 (fun _ => read2 S k) fun n2 => ?_
  refine ⟨_, h4, _, _, rfl, rfl, _, rfl, ?_⟩
  by_cases e : r < 5
  · exact if_posB (decide_eq_true e) (read3 S h7 h8 hb (by omega) k)
  · exact if_negB (decide_eq_false e) (isW h4 (fun _ => read5 S k) fun n5 => isW h4 (fun _ => read6 S k) fun n6 => isW h4 (fun _ => read7 S k) fun n7 => read8 S (by omega) k)
end
def spCalled (K : PySem.W.Frag) : Sp := fun vs H Q _ => ∃ (pen ce : Addr) (cs : List Int) (b g : Int) (p dx tp : Addr) (ws : List Str) (ln : Int) (t : Nat) (l : Addr), vs = [.ref pen, .ref p, .ref l] ∧ Pen H pen ce cs b g ∧ b ≤ 900 ∧ l ≠ pen ∧ WO K H p dx tp ws ln t ∧ (∀ x ∈ ws, x ∈ wordsL) ∧
  H l = some (.lst ((ws.drop t).map V.str)) ∧ Tabs (TL K) H ∧
  ∀ (H' : Hp) (b' g' : Int) (tr h : Addr) (dv : V), b' ≤ b + 2 → Pen H' pen ce cs b' g' → (∀ c o, c ≠ p → c ≠ pen → (∀ ps, o ≠ .tbl ps) → H c = some o → H' c = some o) → Tabs (TL K) H' → H' tr = some (.tup [.ref h, dv]) → Res K H' p dx tp ws ln t h dv → Q (.ref tr) H'
theorem tabsL {T : List (Addr × Str)} {H H' : Hp} {q : Addr} {xs : List V} (t : Tabs T H) (hq : H q = some (.lst xs)) (s : ∀ c o, c ≠ q → H c = some o → H' c = some o) : Tabs T H' := by
  intro z hz
  obtain ⟨ps, e, ok, k⟩ := t z hz
  refine ⟨ps, s _ _ (ne_of e hq (fun z => nomatch z)) e, ok, fun pos cv hc => ?_⟩
  obtain ⟨c, rfl, ec⟩ := k pos cv hc
  exact ⟨c, rfl, s _ _ (ne_of ec hq (fun z => nomatch z)) ec⟩
section
variable {P : Program} {w : World} {K : PySem.W.Frag} {mg : Str → Option Value} {base : Heap}
theorem read_called {H : Hp} {Q : VK} {E : XK} {vs : List V} (h : spCalled K vs H Q E) : tCalled K { nx := fun _ H' => Q .non H', rt := Q } (L2.start scCa_N vs) H := by
  obtain ⟨pen, ce, cs, b, g, p, dx, tp, ws, ln, t, l, rfl, N, hb, lp, O, W, L, Tb, k⟩ := h
  have np : p ≠ pen := ne_of O.ob N.pn (fun z => nomatch z)
  -- the next word and the way
  have first : ∀ {R : V → Hp → Prop}, (∀ H1, Same H H1 → R (wv ws t) H1) → tIf (tTest (tOp (rNeD K) (tVar 2) (tLst tNil))) (tOp (rIxL K) (tVar 2) (tC (.int 0))) (tC .non) (L2.start scCa_N [.ref pen, .ref p, .ref l]) H R := fun {R} kR => by
    refine ⟨_, rfl, Nat.zero_le _, fun q nq => ?_⟩
    have s := same_new (o := .lst []) nq
    refine ⟨.list ((ws.drop t).map PyData.str), .list [], .lst (SqL.of (s _ _ L)) (dp_w _), .lst (SqL.of upd_same) .nil, shaped_w _ fun x hx => words_str W x (List.mem_of_mem_drop hx), by decide, _, rfl, ?_⟩
    rw [eqv_nil]
    by_cases lt : t < ws.length
    · have e : ((ws.drop t).map PyData.str).isEmpty = false := by
        cases h : ws.drop t with
        | nil =>
          have := List.drop_eq_nil_iff.mp h
          omega
        | cons a b => rfl
      refine if_posB (by rw [e]; rfl) ⟨_, rfl, l, _, _, .str (ws.getD t ""), rfl, rfl, SqL.of (s _ _ L), atI_nat (j := 0) ?_, ?_⟩
      · rw [List.getElem?_map, List.getElem?_drop, Nat.add_zero, getD_at lt]
        rfl
      · have z := kR _ s
        rw [wv_yes lt] at z
        exact z
    · have := O.le
      have e : ((ws.drop t).map PyData.str).isEmpty = true := by
        rw [List.drop_eq_nil_iff.mpr (by omega)]
        rfl
      refine if_negB (by rw [e]; rfl) ?_
      have z := kR _ s
      rw [wv_no lt] at z
      exact z
  refine first fun H1 s1 => ⟨_, rfl, pen, ce, cs, b, g, 9, rfl, N.same s1, by omega, by decide, by decide, fun r b1 g1 H2 r0 r9 hb1 N2 k2 => ?_⟩
  have lst_read : ∀ {σ' : L2.St} {R : V → Hp → Prop}, (∀ (L' : Addr) (xs : List V) (H3 : Hp), Same H2 H3 → H3 L' = some (.lst xs) → H2 L' = none → xs ≠ [] → xs.length < 1000 → (∀ x ∈ xs, ∃ a b, x = .ref a ∧ b ∈ bndsL ∧ H3 a = some (.tup [.int b.1, .int b.2])) → R (.ref L') H3) → tLst tBnds σ' H2 R := fun {σ' R} kR => by
    refine ⟨by show 2 ≤ sizeLine; decide, fun t1 n1 => ⟨by show 2 ≤ sizeLine; decide, fun t2 n2 => ⟨5, rfl, by show 2 ≤ sizeLine; decide, fun t3 n3 => ⟨10, 30, rfl, rfl, ⟨by decide, by decide, by decide⟩, by show 2 ≤ sizeLine; decide, fun t4 n4 => ⟨by show 2 ≤ sizeLine; decide, fun t5 n5 =>
      ⟨_, _, rfl, rfl, ⟨by decide, by decide, by decide⟩, _, rfl, _, _, rfl, rfl, ⟨by decide, by decide, by decide⟩, by show 2 ≤ sizeLine; decide, fun t6 n6 => ⟨by show 6 ≤ sizeLine; decide, fun L' nL => ?_⟩⟩⟩⟩⟩⟩⟩
    have e1 := same_new (o := .tup [V.int 0, V.int 9]) n1
    have e2 := same_new (o := .tup [V.int 1, V.int 6]) n2
    have e3 := same_new (o := .tup [V.int (-5), V.int 5]) n3
    have e4 := same_new (o := .tup [V.int 0, V.int (10 ^ Int.toNat 30)]) n4
    have e5 := same_new (o := .tup [V.int 1, V.int 1]) n5
    have e6 := same_new (o := .tup [V.int (-(10 ^ Int.toNat 39)), V.int (10 ^ Int.toNat 39)]) n6
    have eL := same_new (o := .lst [V.ref t1, V.ref t2, V.ref t3, V.ref t4, V.ref t5, V.ref t6]) nL
    have a := e1.trans (e2.trans (e3.trans (e4.trans (e5.trans e6))))
    refine kR L' _ _ (a.trans eL) upd_same ?_ (by simp) (by simp) ?_
    · cases z : H2 L' with
      | none => rfl
      | some o =>
        rw [a _ _ z] at nL
        cases nL
    · intro x hx
      simp only [List.mem_cons, List.not_mem_nil, or_false] at hx
      rcases hx with rfl | rfl | rfl | rfl | rfl | rfl
      · exact ⟨t1, (0, 9), rfl, by decide, eL _ _ (e6 _ _ (e5 _ _ (e4 _ _ (e3 _ _ (e2 _ _ upd_same)))))⟩
      · exact ⟨t2, (1, 6), rfl, by decide, eL _ _ (e6 _ _ (e5 _ _ (e4 _ _ (e3 _ _ upd_same))))⟩
      · exact ⟨t3, (-5, 5), rfl, by decide, eL _ _ (e6 _ _ (e5 _ _ (e4 _ _ upd_same)))⟩
      · exact ⟨t4, (0, 10 ^ 30), rfl, by decide, eL _ _ (e6 _ _ (e5 _ _ upd_same))⟩
      · exact ⟨t5, (1, 1), rfl, by decide, eL _ _ (e6 _ _ upd_same)⟩
      · exact ⟨t6, (-(10 ^ 39), 10 ^ 39), rfl, by decide, eL _ _ upd_same⟩
  refine ⟨_, _, rfl, _, rfl, lst_read fun L' xs H3 s3 hL nL hx hz hxs => ⟨pen, ce, L', cs, b1, g1, xs, rfl, N2.same s3, by omega, ?_, hL, hx, hz, fun x b2 g2 H4 mx hb2 N4 k4 => ?_⟩⟩
  · intro z
    rw [z, N2.pn] at nL
    cases nL
  · obtain ⟨ta, bb, rfl, hbb, hta⟩ := hxs x mx
    have nta : ta ≠ pen := fun z => by
      have q := s3 _ _ N2.pn
      rw [← z, hta] at q
      cases q
    have h4 := k4 ta _ nta hta
    refine ⟨ta, _, rfl, SqT.of h4, rfl, _, _, rfl, _, _, rfl, rfl, ?_⟩
    have keep : ∀ c o, c ≠ pen → H c = some o → H4 c = some o := fun c o hc e => k4 c o hc (s3 _ _ (k2 c o hc (s1 _ _ e)))
    have tp0 : tp ≠ pen := ne_of O.ps N.pn (fun z => nomatch z)
    have S : CS K ((((((L2.start scCa_N [.ref pen, .ref p, .ref l]).set 3 (some (wv ws t))).set 4 (some (.int r))).set 8 (some (.int bb.1)))).set 7 (some (.int bb.2))) H4 p dx tp ws ln t l :=
      ⟨rfl, rfl, rfl, ⟨keep _ _ np O.ob, keep _ _ tp0 O.ps, O.le, O.lz⟩, W, keep _ _ lp L, tabsL Tb N.pn keep⟩
    show tWays K { nx := fun _ H' => Q .non H', rt := Q } ((((((L2.start scCa_N [.ref pen, .ref p, .ref l]).set 3 (some (wv ws t))).set 4 (some (.int r))).set 8 (some (.int bb.1)))).set 7 (some (.int bb.2))) H4
    refine ways_read (r := r) (b := bb) S rfl r9 r0 rfl rfl hbb fun H' tr h dv kp T1 e res => ?_
    refine k H' b2 g2 tr h dv (by omega) ⟨kp _ _ (Ne.symm np) (fun _ z => nomatch z) N4.pn, kp _ _ (ne_of N4.ce S.O.ob (fun z => nomatch z)) (fun _ z => nomatch z) N4.ce, N4.b0, N4.g0, N4.ln⟩ (fun c o h1 h2 hn q => kp c o h1 hn (keep c o h2 q)) T1 e res
theorem ok_called (T : KF P w K mg base) (TB : TabB base mg (cC K).1 (cC K).2) : ∃ fd, FnOk P w K mg base CX0 8 (ga K "_law_called") fd psCa (spCalled K) ∧ L2.Binds K fd psCa [] ∧ PySem.W.keepIn K (.ref (ga K "_law_called")) = true ∧ mg "_law_called" = some (.ref (ga K "_law_called")) := by
  obtain ⟨fd, F, g⟩ := T.tops ("_law_called", 25) (by decide)
  have b : L2.Binds K fd psCa [] := FunD.bindsN F fun _ _ _ _ _ _ us hl => match us, hl with | [_, _, _], _ => rfl
  have kp := F.kp
  obtain ⟨oc, od, dV, kV, doc, pm, an, cdv, ct, osl, rfl, lk, hcd, _, _⟩ := F.ex
  obtain ⟨c, rfl⟩ := He.codeIn_ref hcd
  have ec : (cC K).1 = c := He.codeOf_eq (p := ("_law_called", none)) lk rfl
  refine ⟨_, L2.fn_of lk hcd scCa (fun vs H Q E h => ?_) (fun A outer s H vs Q E hr h => ⟨tCalled K, code_called T TB (by rw [ec]) hr, read_called h⟩), b, kp, g⟩
  obtain ⟨pen, ce, cs, b, g, p, dx, tp, ws, ln, t, l, rfl, _⟩ := h
  rfl
end
end K2

/-! text GuardX -/
set_option Elab.async false
set_option linter.all false
set_option maxRecDepth 100000
set_option maxHeartbeats 2000000
/-! A def that is only called where no repr is under way. -/
namespace Gd
open PySem PySem.Spec PyProof.Rows L2
structure FnG (P : Program) (w : World) (K : PySem.W.Frag) (mg : Str → Option Value) (base : Heap) (C : CXT) (k : Nat) (f : Addr) (fd : FuncData) (ps : List Str) (sp : Sp) : Prop where
  len : ∀ vs H Q E, sp vs H Q E → vs.length = ps.length
  go : ∀ (B : Around) (out : List Env) (t : Shared) (H : Hp) (as : Args) (us : List Value) (vs : List V) (Q : VK) (E : XK), B.guards = some [] → Room k B → Env0 P w K mg base B out t H →
    BindsTo t fd as (ps.zip us) → Vals vs us → sp vs H Q E → codeAny (model P w) B (.call (.ref f) as) (CR C out P w H t Q E) t
section
variable {CX : CXT} {P : Program} {w : World} {K : PySem.W.Frag} {mg : Str → Option Value} {base : Heap} {x qual : Str} {pm0 : Arguments} {body : List Stmt} {scope : Scope} {dvs : List V} {kws : List (Str × V)} {f : Addr} {fd : FuncData} {N ps : List Str} {k : Nat} {sp : Sp}
theorem ofD (D : FunD K x qual pm0 body scope dvs kws f fd) (S : FnScope N ps scope) (len : ∀ vs H Q E, sp vs H Q E → vs.length = ps.length)
    (hbody : ∀ (cdv : Value) (B : Around) (out : List Env) (t : Shared) (H : Hp) (vs : List V) (Q : VK) (E : XK), B.guards = some [] → Room k (B.deeper (envOfC qual scope t.heap.objs.size f cdv)) → sp vs H Q E →
      ∃ r, PSs (cxOf CX P w K mg base N qual scope f cdv B out t H E) body r ∧ r { nx := fun _ H' => Q .non H', rt := Q } (start N vs) H) : FnG P w K mg base CX (k + 1) f fd ps sp := by
  obtain ⟨oc, od, dV, kV, doc, pm, an, cdv, ct, osl, rfl, lk, hcd, _, _⟩ := D.ex
  refine ⟨len, fun B out t H as us vs Q E hG hR e0 hb r hsp => ?_⟩
  have KX : K.In t.heap := e0.mod.kin.keeps fun b o e => (e0.bs b o e).1
  have lim : t.heap.NoLimit := e0.mod.nolimit.keeps fun b o e => (e0.bs b o e).1
  have hkd : ∀ q ∈ ps.zip us, scope.names.lookup q.1 = some .local ∨ (scope.names.lookup q.1 = some .cell ∧ ((cellsFrom (t.heap.objs.size + 1) scope.names []).lookup q.1).isSome = true) := fun ⟨n, v⟩ hq => by
    rcases S.par n (List.of_mem_zip hq).1 with i | i
    · exact .inl i
    · exact .inr ⟨i, PySem.W.cellsFrom_some _ _ _ (.inl i)⟩
  refine codeAny_call_function hR.depth (KX _ _ lk) rfl S.co S.gen rfl (PySem.W.codeRec_of KX hcd) (hb _ _ _ _ ?_)
  refine wpAny_newFunctionEnv_cells S.kind hkd fun ev he t1 X => ?_
  subst he
  refine ⟨lim.keeps X.toInCall.keep, codeAny_func ?_⟩
  obtain ⟨r0, h0, hq⟩ := hbody cdv B out t H vs Q E hG (hR.deeper _) hsp
  refine wpAny_mono (h0.run [] t1 (start N vs) H _ (inv_start S hR.hd e0 (len _ _ _ _ hsp) r X) hq) (fun fl t2 hs => ?_) fun e t2 hs => hs
  cases fl with
  | ret u => exact let ⟨v, _, H', J, rv, q⟩ := hs; ⟨v, H', J.os, J.bare, J.base, J.hok, rv, q⟩
  | next => exact let ⟨_, H', J, q⟩ := hs; ⟨V.non, H', J.os, J.bare, J.base, J.hok, (rfl : Value.none = Value.none), q⟩
  | brk => exact let ⟨_, _, _, q⟩ := hs; False.elim q
  | cont => exact let ⟨_, _, _, q⟩ := hs; False.elim q
end
section
variable {X : Cx} {CX : CXT} {k : Nat} {f : Addr} {fd : FuncData} {ps : List Str} {sp : Sp} {E : XK} {x : Str} {p pos : Pos} {e : Expr} {es : List Expr} {t : TA}
theorem pe_callG (F : FnG X.prog X.w X.K X.mg X.base CX k f fd ps sp) (hR : Room k X.A) (hG : X.A.guards = some []) (hg : Gl X x) (hm : X.mg x = some (.ref f)) (hk : PySem.W.keepIn X.K (.ref f) = true) (hb : Binds X.K fd ps []) (hx : Passes CX X E)
    (ha : PA X (e :: es) t) (hdb : (x == ("__debug__" : Str)) = false := by decide) (he : starEach (e :: es) X.env = (false, eval e X.env) :: starEach es X.env := by rfl) (hpl : (backTo pos (starEach es X.env)).any (·.1) = false := by rfl) :
    PE X (.Call (.Name x p) (e :: es) [] pos) (tCall sp [] E t) := by
  refine ⟨fun pins s σ H Q I h => wpAny_Call_Name_kw (ld_glob I hg hm ?_ hdb)⟩
  refine PySem.W.callWith_K (h₀ := X.base) I.ok.mod.kin hk (thn (ha.run pos pins s σ H _ I h) fun us s1 ⟨vs, H1, I1, r, q⟩ => ⟨I1.kIn, ?_⟩) he hpl
  have r2 : Vals (vs ++ []) (us ++ []) := r.append .nil
  have hl : (us ++ []).length = ps.length := by rw [← r2.length]; exact F.len _ _ _ _ q
  refine wpAny_call (codeAny_mono (F.go X.A X.stack s1 H1 ⟨us, []⟩ (us ++ []) (vs ++ []) Q E hG hR I1.env0 (hb s1 us I1.kIn hl) r2 q) fun z s' hz => ?_)
  match z, hz with
  | .error e, hz => exact hx pins σ H1 s1 e s' I1 hz
  | .ok (.ret u), hz => exact I1.after hz
end
/-- the head's end -/
theorem law_callG {P : Program} {w : World} {K : PySem.W.Frag} {mg mb : Str → Option Value} {k : Nat} {f a : Addr} {fd : FuncData} {x : Str} {sp : Sp} {t : Shared} {us : List Value} {ns : List Int}
    (KX : K.In t.heap) (gM : t.heap.Ns mainGlobals mg) (gB : t.heap.Ns builtinsNs mb) (gb : ∀ x : Str, x ≠ "__name__" → mb x = bootBuiltins x) (lim : t.heap.NoLimit) (hg : t.gens = #[])
    (ha : t.heap.get? a = some { cls := .type "list", data := .seq us.toArray }) (hi : IntsAre us ns) (hl : ns.length ≤ sizeLine) (hR : Room k callerA)
    (F : ∀ base : Heap, K.In base → base.Ns mainGlobals mg → FnG P w K mg base CX0 k f fd [x] sp) (hbind : ∀ (s : Shared) (u : Value), BindsTo s fd ⟨[u], []⟩ [(x, u)])
    (hsp : ∀ H : Hp, Only H → SqL K H a (ns.map V.int) → sp [.ref a] H (fun v _ => v = .bl true) fun _ _ _ => False)
    (hX : ∀ H e s', CX0 [] H t (fun _ _ _ => False) e s' → False) :
    codeAny (model P w) callerA (.call (.ref f) ⟨[.ref a], []⟩) (fun r s' => r = .ok (.ret (.bool true)) ∧ OldK t.heap s'.heap ∧ s'.os = t.os ∧ AllBare s'.gens) t := by
  suffices main : ∃ H : Hp, Only H ∧ SqL K H a (ns.map V.int) ∧ HOk P w H t.heap ∧ (∀ b, H b ≠ none → b = a) ∧ (H a ≠ none → K.lookup a = none) by
    obtain ⟨H, hO, hS, hok, hA, hK⟩ := main
    have hid : ∀ {b : Addr} {o : Obj}, t.heap.get? b = some o → H b = none → (hidT t.heap H).get? b = some o := fun i n => hidT_get i n
    have hns : ∀ {b : Addr} {m : Str → Option Value}, t.heap.Ns b m → (hidT t.heap H).Ns b m := fun {b m} ⟨o, es, ep, i, d, r⟩ => ⟨o, es, ep, hid i (by
      by_cases q : H b = none
      · exact q
      · cases hA b q
        rw [ha] at i
        cases i
        exact nomatch (show Data.seq us.toArray _ = Data.dict es ep from d)), d, r⟩
    have KH : K.In (hidT t.heap H) := fun b o i => hid (KX b o i) (by
      by_cases q : H b = none
      · exact q
      · cases hA b q
        rw [hK q] at i
        cases i)
    have e0 : Env0 P w K mg (hidT t.heap H) callerA [] t H :=
      ⟨rfl, ⟨KH, hns gM, ⟨mb, hns gB, gb⟩, let ⟨m, i, j⟩ := lim; ⟨m, hns i, j⟩⟩, fun b o i => of_hidT i, Nat.le_of_eq (hidT_size _ _), trivial, fun b i => absurd (show b ∈ ([] : List Addr) from i) (by simp), hok, .of_eq hg⟩
    refine codeAny_mono ((F _ KH (hns gM)).go callerA [] t H ⟨[.ref a], []⟩ [.ref a] [.ref a] _ _ rfl hR e0 (hbind t (.ref a)) (.cons rfl .nil) (hsp H hO hS)) fun r s' h => ?_
    match r, h with
    | .error e, h => exact (hX H e s' h).elim
    | .ok (.ret u), h =>
      obtain ⟨v, H', os, bare, un, hok', r', q⟩ := h
      cases (show v = V.bl true from q)
      cases (show u = Value.bool true from r')
      refine ⟨rfl, OldK.of_keep fun b o i => ?_, os, bare⟩
      rcases hO b with q | ⟨ob, xs, q⟩
      · exact un.keep b o i q (by intro z; exact absurd (show b ∈ ([] : List Addr) from z) (by simp)) (by simp)
      · obtain ⟨i1, _⟩ := hok b _ q
        obtain ⟨i2, _⟩ := hok' b _ (un.frzs b ob _ q)
        rw [i] at i1
        cases i1
        exact i2
  by_cases hk : K.lookup a = none
  · refine ⟨fun b => if b = a then some (.frz { cls := .type "list", data := .seq us.toArray } (.lst (ns.map V.int))) else none, fun b => ?_, .inl (.inr ⟨{ cls := .type "list", data := .seq us.toArray }, if_pos rfl⟩), fun b u i => ?_, fun b i => ?_, fun _ => hk⟩
    · by_cases hb : b = a
      · exact .inr ⟨_, _, if_pos hb⟩
      · exact .inl (if_neg hb)
    · by_cases hb : b = a
      · cases (if_pos hb).symm.trans i
        subst hb
        exact ⟨ha, by rw [List.length_map]; exact hl, us, _, vals_ints hi, ha⟩
      · cases (if_neg hb).symm.trans i
    · by_cases hb : b = a
      · exact hb
      · exact absurd (if_neg hb) i
  · obtain ⟨o, ho⟩ : ∃ o, K.lookup a = some o := by
      cases e : K.lookup a with
      | none => exact absurd e hk
      | some o => exact ⟨o, rfl⟩
    have i := KX a o ho
    rw [ha] at i
    cases i
    exact ⟨fun _ => none, fun _ => .inl rfl, .inr ⟨_, us.toArray, _, ho, rfl, rfl, rfl, by rw [List.size_toArray, hi.length]; exact hl, by simpa using vals_ints hi⟩, fun b u z => (nomatch (show (none : Option HO) = some u from z)), fun b z => absurd rfl z, fun z => absurd rfl z⟩
theorem walkG {l : PySem.W.OpenLaw} {n k : Nat} {q : Program} {loose : List Str} {XP : (Str → Option Value) → Heap → Prop} {YP : World → Heap → Prop} {d : DefRec} {x : Str}
    (hn : l.most = some n) (hn2 : n ≤ sizeLine) (hdf : d.params.defaults = []) (hR : Room k callerA)
    (F : ∀ (w : World) (mg : Str → Option Value) (fa : Addr) (h : Heap), YP w h → h.Ns mainGlobals mg → mg d.name = some (.ref fa) →
      ∃ (K : PySem.W.Frag) (fd : FuncData) (sp : Sp), K.In h ∧ (∀ (s : Shared) (u : Value), BindsTo s fd ⟨[u], []⟩ [(x, u)]) ∧
        (∀ (H : Hp) (a : Addr) (ns : List Int), ns.length ≤ n → Only H → SqL K H a (ns.map V.int) → sp [.ref a] H (fun v _ => v = .bl true) fun _ _ _ => False) ∧
        ∀ base : Heap, K.In base → base.Ns mainGlobals mg → FnG l.prog w K mg base CX0 k fa fd [x] sp)
    (hX : ∀ (H : Hp) (s : Shared) (e : Value) (s' : Shared), CX0 [] H s (fun _ _ _ => False) e s' → False) :
    PySem.W.WalkO q loose XP YP l.row.toRowW d [] (fun f vs => PySem.call f vs) := by
  refine Att.attach_call hn hdf fun w s₀ s₁ mg mb fa o pm cd doc a vs ns G Y ho hd hcd hmg hobj hints hlen hg => ?_
  obtain ⟨K, fd, sp, KX, hb, hsp, hF⟩ := F w mg fa _ Y G.T.g hmg
  exact law_callG KX G.T.g G.T.b G.T.builtins G.T.nolimit hg hobj hints (Nat.le_trans hlen hn2) hR hF hb (fun H hO hS => hsp H a ns hlen hO hS) fun H e s' => hX H s₁ e s'
end Gd

/-! text RepLenX -/
set_option Elab.async false
set_option linter.all false
set_option maxRecDepth 100000
set_option maxHeartbeats 1000000
/-! A bound of the length of a repr that the kernel reckons. -/
namespace RV
open PySem PySem.Spec PyProof.Rows L2
mutual
def up : PyData → Nat
  | .none => 4
  | .bool _ => 5
  | .int i => (PyData.shown (.int i)).length
  | .str x => if x.cps.toList.all (fun c => decide (c < 16 ^ 8)) = true then 10 * x.length + 2 else (PyData.shown (.str x)).length
  | .list xs => upAll xs + 3
  | .tuple xs => upAll xs + 3
  | .dict kvs => upKv kvs + 3
def upAll : List PyData → Nat
  | [] => 0
  | x :: xs => up x + 2 + upAll xs
def upKv : List (PyData × PyData) → Nat
  | [] => 0
  | (k, v) :: r => up k + up v + 4 + upKv r
end
theorem listText_up (ts : List Str) : (listText ts).length ≤ piled ts + 2 := by
  cases ts with
  | nil => exact Nat.le_of_eq (by rw [listText_nil]; rfl)
  | cons t r =>
    have h := textFrom_length_pos r 1 (("[" : Str) ++ (if (0 : Nat) > 0 then ", " else "" : String) ++ t) (Nat.succ_pos 0)
    have e : ((("[" : Str) ++ (if (0 : Nat) > 0 then ", " else "" : String) ++ t)).length = 1 + t.length := by
      rw [strLen_append, strLen_append]
      rfl
    have z : (listText (t :: r)).length = (textFrom 1 (("[" : Str) ++ (if (0 : Nat) > 0 then ", " else "" : String) ++ t) r).length + 1 := by
      show (textFrom 1 _ r ++ ("]" : Str)).length = _
      rw [strLen_append]
      rfl
    rw [z, h, e, piled_cons]
    omega
theorem join_up (ts : List Str) : (Str.join ", " ts).length ≤ piled ts := by
  cases ts with
  | nil => exact Nat.le_of_eq rfl
  | cons t r =>
    have := join_length_add (t :: r) (by simp)
    omega
theorem tupleText_up (ts : List Str) : (tupleText ts).length ≤ piled ts + 3 := by
  have h := join_up ts
  unfold tupleText
  rw [strLen_append, strLen_append]
  have e : (("(" : Str)).length = 1 := rfl
  have e2 : ((if ts.length == 1 then ",)" else ")" : String) : Str).length ≤ 2 := by
    split
    · exact Nat.le_of_eq rfl
    · exact Nat.le_trans (Nat.le_of_eq rfl) (by decide : 1 ≤ 2)
  omega
theorem dictText_up (ts : List Str) : (dictText ts).length ≤ piled ts + 2 := by
  have h := join_up ts
  unfold dictText
  rw [strLen_append, strLen_append]
  have e : (("{" : Str)).length = 1 := rfl
  have e2 : (("}" : Str)).length = 1 := rfl
  omega
mutual
theorem up_ok : ∀ d : PyData, d.shown.length ≤ up d
  | .none => Nat.le_of_eq rfl
  | .bool b => by cases b <;> (simp only [PyData.shown, up]; decide)
  | .int i => by
    simp only [up]
    exact Nat.le_refl _
  | .str x => by
    simp only [up]
    split
    · rename_i h
      simp only [PyData.shown]
      exact StrLaws.reprText_len x fun c hc => of_decide_eq_true (List.all_eq_true.mp h c hc)
    · exact Nat.le_refl _
  | .list xs => by
    simp only [up, PyData.shown]
    have := listText_up (PyData.shownAll xs)
    have := upAll_ok xs
    omega
  | .tuple xs => by
    simp only [up, PyData.shown]
    have := tupleText_up (PyData.shownAll xs)
    have := upAll_ok xs
    omega
  | .dict kvs => by
    simp only [up, PyData.shown]
    have := dictText_up (PyData.shownKv kvs)
    have := upKv_ok kvs
    omega
theorem upAll_ok : ∀ xs : List PyData, piled (PyData.shownAll xs) ≤ upAll xs
  | [] => by
    simp only [upAll, PyData.shownAll, piled_nil]
    exact Nat.le_refl _
  | x :: xs => by
    simp only [upAll, PyData.shownAll, piled_cons]
    have := up_ok x
    have := upAll_ok xs
    omega
theorem upKv_ok : ∀ kvs : List (PyData × PyData), piled (PyData.shownKv kvs) ≤ upKv kvs
  | [] => by
    simp only [upKv, PyData.shownKv, piled_nil]
    exact Nat.le_refl _
  | (k, v) :: r => by
    simp only [upKv, PyData.shownKv, piled_cons]
    have h1 := up_ok k
    have h2 := up_ok v
    have h3 := upKv_ok r
    rw [strLen_append, strLen_append]
    have e : ((": " : String) : Str).length = 2 := rfl
    omega
end
end RV

/-! text K2Chk -/
set_option Elab.async false
set_option linter.all false
set_option maxRecDepth 100000
set_option maxHeartbeats 2000000
namespace K2
open PySem PySem.Spec PyProof.Rows L2 RV EV He EF EI Hd LamX Kw Gd
/-! _law_checks_right (23). -/
abbrev sChk : Stmt := top 24
/-- a word that _law_is_fix can be asked about -/
def wishB (x : Str) : Bool := decide (x.length ≤ 50) && x.cps.toList.all fun c => PyData.strOk (one c)
/-- the kinds of value that are looked at -/
inductive Kd (pen : Addr) (H : Hp) : V → Prop
  | non : Kd pen H .non
  | bl (b : Bool) : Kd pen H (.bl b)
  | int (i : Int) : Kd pen H (.int i)
  | str (x : Str) (h : wishB x = true) : Kd pen H (.str x)
  | lst {a : Addr} {xs : List V} (n : a ≠ pen) (h : H a = some (.lst xs)) : Kd pen H (.ref a)
  | tup {a : Addr} {xs : List V} (n : a ≠ pen) (h : H a = some (.tup xs)) : Kd pen H (.ref a)
  | dic {a : Addr} {kvs : List (Key × V)} (n : a ≠ pen) (h : H a = some (.dK kvs)) : Kd pen H (.ref a)
theorem Kd.keep {pen : Addr} {H H' : Hp} {v : V} (k : Kd pen H v) (s : ∀ c o, c ≠ pen → H c = some o → H' c = some o) : Kd pen H' v := by
  cases k with
  | non => exact .non
  | bl b => exact .bl b
  | int i => exact .int i
  | str x h => exact .str x h
  | lst n h => exact .lst n (s _ _ n h)
  | tup n h => exact .tup n (s _ _ n h)
  | dic n h => exact .dic n (s _ _ n h)
theorem Kd.same {pen : Addr} {H H' : Hp} {v : V} (k : Kd pen H v) (s : Same H H') : Kd pen H' v := k.keep fun c o _ e => s c o e
def Fx (bs : Bool) (v : V) (fx : Bool) : Prop := (bs = false ∧ fx = false) ∨ (bs = true ∧ ∃ x, v = .str x ∧ wishB x = true ∧ fx = isFixB x)
def Wi (n : Bool) (v : V) (lo hi : Int) (wi : Bool) : Prop := (n = false ∧ wi = false) ∨ (n = true ∧ ∃ i, v = .int i ∧ wi = (decide (lo ≤ i) && decide (i ≤ hi)))
structure Ty3 (K : PySem.W.Frag) (H : Hp) (v : V) (t : String) (bi bb bs : Bool) : Prop where
  ty : TyX K H v (.type t)
  hi : kitB t "int" = some bi
  hb : kitB t "bool" = some bb
  hs : kitB t "str" = some bs
  fs : bs = true → ∃ x, v = .str x ∧ wishB x = true
  fi : (bi && !bb) = true → ∃ i, v = .int i
theorem Kd.ty {K : PySem.W.Frag} {pen : Addr} {H : Hp} {v : V} (k : Kd pen H v) : ∃ t bi bb bs, ∀ H', Same H H' → Ty3 K H' v t bi bb bs := by
  cases k with
  | non => exact ⟨"NoneType", false, false, false, fun H' s => ⟨.base .non, by decide +kernel, by decide +kernel, by decide +kernel, (fun z => nomatch z), fun z => nomatch z⟩⟩
  | bl b => exact ⟨"bool", true, true, false, fun H' s => ⟨.base (.bl b), by decide +kernel, by decide +kernel, by decide +kernel, (fun z => nomatch z), fun z => nomatch z⟩⟩
  | int i => exact ⟨"int", true, false, false, fun H' s => ⟨.base (.int i), by decide +kernel, by decide +kernel, by decide +kernel, (fun z => nomatch z), fun _ => ⟨i, rfl⟩⟩⟩
  | str x h => exact ⟨"str", false, false, true, fun H' s => ⟨.base (.str x), by decide +kernel, by decide +kernel, by decide +kernel, (fun _ => ⟨x, rfl, h⟩), fun z => nomatch z⟩⟩
  | lst n h => exact ⟨"list", false, false, false, fun H' s => ⟨.base (.lst (s _ _ h)), by decide +kernel, by decide +kernel, by decide +kernel, (fun z => nomatch z), fun z => nomatch z⟩⟩
  | tup n h => exact ⟨"tuple", false, false, false, fun H' s => ⟨.base (.tup (s _ _ h)), by decide +kernel, by decide +kernel, by decide +kernel, (fun z => nomatch z), fun z => nomatch z⟩⟩
  | dic n h => exact ⟨"dict", false, false, false, fun H' s => ⟨.base (.dK (s _ _ h)), by decide +kernel, by decide +kernel, by decide +kernel, (fun z => nomatch z), fun z => nomatch z⟩⟩
abbrev scCk_N : List Str := ["_law_pen_here", "_law_least", "_law_step", "_law_most", "_law_some", "_law_value", "_law_is_number", "_law_due"]
theorem scCk : FnScope scCk_N ["_law_pen_here"] (defScope sChk) := ⟨rfl, rfl, rfl, by decide +kernel, rfl, by decide +kernel, by decide +kernel⟩
abbrev rInR : R2 := fun x y H Q => ∃ i a lo hi, x = V.int i ∧ y = V.ref a ∧ H a = some (HO.rng lo hi) ∧ Q (V.bl (decide (lo ≤ i ∧ i < hi))) H
abbrev rRg2 : List V → Hp → VK → Prop := fun vs H Q => ∃ i j, vs = [V.int i, V.int j] ∧ ∀ (p : Addr), H p = none → Q (V.ref p) (upd H p (HO.rng i j))
abbrev rStr1 : List V → Hp → VK → Prop := fun xs H Q => ∃ a, xs = [V.str a] ∧ Q (V.str a) H
def tIsN (K : PySem.W.Frag) : TE := tAndV (tCB (rIsi K) (tCons (tVar 5) (tCons (tC (V.ty "int")) tNil))) (tNotV (tCB (rIsi K) (tCons (tVar 5) (tCons (tC (V.ty "bool")) tNil))))
def tDue (K : PySem.W.Frag) : TE := tL1 (tCons (tVar 6) (tCons (tAndV (tCB (rIsi K) (tCons (tVar 5) (tCons (tC (V.ty "str")) tNil))) (tCall (spLFix K) [] E0 (tCons (tCB rStr1 (tCons (tVar 5) tNil)) tNil)))
  (tCons (tAndV (tVar 6) (tOp rInR (tVar 5) (tCB rRg2 (tCons (tVar 1) (tCons (tOp (rI0 fun i j => V.int (i + j)) (tVar 3) (tC (V.int 1))) tNil))))) tNil)))
def tAns (K : PySem.W.Frag) : TE := tL1 (tCons (tCall (spIsInt K) [] E0 (tCons (tVar 5) tNil)) (tCons (tCall (spFix K) [] E0 (tCons (tVar 5) tNil)) (tCons (tCall (spWithin K) [] E0 (tCons (tVar 5) (tCons (tVar 1) (tCons (tVar 3) tNil)))) tNil)))
def tAnsK (K : PySem.W.Frag) : TE := tL1 (tCons (tCallKw (spIsInt K) [0] 1 E0 (tCons (tVar 5) tNil)) (tCons (tCallKw (spFix K) [0] 1 E0 (tCons (tVar 5) tNil)) (tCons (tCallKw (spWithin K) [1, 2, 0] 3 E0 (tCons (tVar 3) (tCons (tVar 5) (tCons (tVar 1) tNil)))) tNil)))
def tOff (t : TE) : TS := tIfS (tTest (tOp rNe (tCB rRepr (tCons t tNil)) (tCB rRepr (tCons (tVar 7) tNil)))) (tRet (tC (V.bl false))) tNext
def tTurnC (K : PySem.W.Frag) : TS := tSeq (tAsg (tIsN K) (gName 6)) (tSeq (tAsg (tDue K) (gName 7)) (tSeq (tOff (tAns K)) (tOff (tAnsK K))))
def tSome : TE := tLst (tCons (tC V.non) (tCons (tC (V.bl true)) (tCons (tC (V.bl false)) (tCons (tC (V.int 0)) (tCons (tC (V.int 1)) (tCons (tOp (rI0 fun i j => V.int (i - j)) (tVar 1) (tC (V.int 1))) (tCons (tVar 1) (tCons (tVar 3)
  (tCons (tOp (rI0 fun i j => V.int (i + j)) (tVar 3) (tC (V.int 1))) (tCons (tOp (rI CPow fun i j => V.int (i ^ j.toNat)) (tC (V.int 10)) (tC (V.int 39))) (tCons (tLst (tCons (tC (V.int 1)) tNil)) (tCons (tTup (tCons (tC (V.str "f")) tNil))
  (tCons tDNewK (tCons (tC (V.str "f g")) (tCons (tC (V.str "f\n")) (tCons (tC (V.str "ab")) (tCons (tC (V.str "F")) (tCons (tC (V.str "zzzzzzzz")) tNil))))))))))))))))))
def tThree : TE := tLst (tCons (tCall spPick [] E0 (tCons (tVar 0) (tCons (tVar 4) tNil))) (tCons (tCall spPick [] E0 (tCons (tVar 0) (tCons (tVar 4) tNil))) (tCons (tCall spPick [] E0 (tCons (tVar 0) (tCons (tCall spTexts [] E0 tNil) tNil))) tNil)))
def tBeg : TS := tPar 1 2 (tCons (tCall spPick [] E0 (tCons (tVar 0) (tCons (tLst (tCons (tUn (rU fun i => V.int (-i)) (tC (V.int 5))) (tCons (tC (V.int 0)) (tCons (tC (V.int 1)) (tCons (tOp (rI CPow fun i j => V.int (i ^ j.toNat)) (tC (V.int 10)) (tC (V.int 30)))
  (tCons (tUn (rU fun i => V.int (-i)) (tOp (rI CPow fun i j => V.int (i ^ j.toNat)) (tC (V.int 10)) (tC (V.int 39)))) tNil)))))) tNil))) (tCons (tCall spDraw [] E0 (tCons (tVar 0) (tCons (tC (V.int 9)) tNil))) tNil))
def tChk (K : PySem.W.Frag) : TS := tSeq tBeg (tSeq (tAsg (tOp (rI0 fun i j => V.int (i + j)) (tVar 1) (tVar 2)) (gName 3)) (tSeq (tAsg tSome (gName 4)) (tSeq (tFor (iList K tThree) (gName 5) (tTurnC K)) (tRet (tC (V.bl true))))))
section
variable {P : Program} {w : World} {K : PySem.W.Frag} {mg : Str → Option Value} {base : Heap}
/-- the checks, and how they bind by keywords -/
structure CK (P : Program) (w : World) (K : PySem.W.Frag) (mg : Str → Option Value) (base : Heap) : Prop where
  ii : ∃ fd, FnOk P w K mg base CX0 1 (ga K "is_integer") fd ["value"] (spIsInt K) ∧ L2.Binds K fd ["value"] [] ∧ (∀ (s : Shared) (ws : List Value), ws.length = (["value"] : List Str).length → BindsTo s fd ⟨[], (["value"] : List Str).zip ws⟩ ((["value"] : List Str).zip (sel [0] ws))) ∧
    PySem.W.keepIn K (.ref (ga K "is_integer")) = true ∧ mg "is_integer" = some (.ref (ga K "is_integer"))
  fx : ∃ fd, FnOk P w K mg base CX0 1 (ga K "is_fix") fd ["value"] (spFix K) ∧ L2.Binds K fd ["value"] [] ∧ (∀ (s : Shared) (ws : List Value), ws.length = (["value"] : List Str).length → BindsTo s fd ⟨[], (["value"] : List Str).zip ws⟩ ((["value"] : List Str).zip (sel [0] ws))) ∧
    PySem.W.keepIn K (.ref (ga K "is_fix")) = true ∧ mg "is_fix" = some (.ref (ga K "is_fix"))
  wi : ∃ fd, FnOk P w K mg base CX0 2 (ga K "is_within") fd ["value", "least", "most"] (spWithin K) ∧ L2.Binds K fd ["value", "least", "most"] [] ∧ (∀ (s : Shared) (ws : List Value), ws.length = (["most", "value", "least"] : List Str).length → BindsTo s fd ⟨[], (["most", "value", "least"] : List Str).zip ws⟩ ((["value", "least", "most"] : List Str).zip (sel [1, 2, 0] ws))) ∧
    PySem.W.keepIn K (.ref (ga K "is_within")) = true ∧ mg "is_within" = some (.ref (ga K "is_within"))
  tx : ∃ fd, FnOk P w K mg base CX0 1 (ga K "_law_texts") fd [] spTexts ∧ L2.Binds K fd [] [] ∧ PySem.W.keepIn K (.ref (ga K "_law_texts")) = true ∧ mg "_law_texts" = some (.ref (ga K "_law_texts"))
theorem ck (T : KF P w K mg base) : CK P w K mg base := by
  obtain ⟨f1, F1, g1⟩ := T.tops ("is_integer", 2) (by decide)
  obtain ⟨f2, F2, g2⟩ := T.tops ("is_fix", 4) (by decide)
  obtain ⟨f3, F3, g3⟩ := T.tops ("is_within", 3) (by decide)
  obtain ⟨f4, F4, g4⟩ := T.tops ("_law_texts", 17) (by decide)
  refine ⟨⟨f1, ok_isInt F1 (blt2 T), FunD.bindsN F1 fun _ _ _ _ _ _ us hl => match us, hl with | [_], _ => rfl, ?_, F1.kp, g1⟩, ⟨f2, ok_fix F2 (blt2 T), FunD.bindsN F2 fun _ _ _ _ _ _ us hl => match us, hl with | [_], _ => rfl, ?_, F2.kp, g2⟩,
    ⟨f3, ok_within F3 (blt2 T) F1 g1, FunD.bindsN F3 fun _ _ _ _ _ _ us hl => match us, hl with | [_, _, _], _ => rfl, ?_, F3.kp, g3⟩, ⟨f4, ok_texts F4, FunD.bindsN F4 fun _ _ _ _ _ _ us hl => match us, hl with | [], _ => rfl, F4.kp, g4⟩⟩
  · intro s ws hl
    obtain ⟨oc, od, dV, kV, doc, pm, an, cdv, ct, osl, rfl, lk, hcd, hD, hK⟩ := F1.ex
    rcases hD with ⟨_, rfl⟩ | ⟨e, _⟩
    · match ws, hl with
      | [a], _ => exact .of_eq rfl
    · exact absurd rfl e
  · intro s ws hl
    obtain ⟨oc, od, dV, kV, doc, pm, an, cdv, ct, osl, rfl, lk, hcd, hD, hK⟩ := F2.ex
    rcases hD with ⟨_, rfl⟩ | ⟨e, _⟩
    · match ws, hl with
      | [a], _ => exact .of_eq rfl
    · exact absurd rfl e
  · intro s ws hl
    obtain ⟨oc, od, dV, kV, doc, pm, an, cdv, ct, osl, rfl, lk, hcd, hD, hK⟩ := F3.ex
    rcases hD with ⟨_, rfl⟩ | ⟨e, _⟩
    · match ws, hl with
      | [a, b, c], _ => exact .of_eq rfl
    · exact absurd rfl e
def spChk : Sp := fun vs H Q _ => ∃ (pen ce : Addr) (cs : List Int) (b g : Int), vs = [.ref pen] ∧ Pen H pen ce cs b g ∧ b ≤ 900 ∧ ∀ (H' : Hp) (b' g' : Int), b' ≤ b + 10 → Pen H' pen ce cs b' g' → (∀ c o, c ≠ pen → H c = some o → H' c = some o) → Q (.bl true) H'
theorem code_chk (T : KF P w K mg base) {f : Addr} {A : Around} {outer : List Env} {s : Shared} {H : Hp} {E : XK} {cdv : Value} (hG : A.guards = some []) (hr : Room 3 (A.deeper (envOfC "_law_checks_right" (defScope sChk) s.heap.objs.size f cdv))) :
    ∃ t, PSs (cxOf CX0 P w K mg base scCk_N "_law_checks_right" (defScope sChk) f cdv A outer s H E) (defBody sChk) t ∧ t = tChk K := by
  obtain ⟨⟨fD, GD, bD, kD, gD⟩, ⟨fP, GP, bP, kP, gP⟩, ⟨fF, GF, bF, kF, gF⟩, _, _⟩ := cc T
  obtain ⟨⟨f1, G1, b1, b1k, k1, g1⟩, ⟨f2, G2, b2, b2k, k2, g2⟩, ⟨f3, G3, b3, b3k, k3, g3⟩, ⟨f4, G4, b4, k4, g4⟩⟩ := ck T
  have hu := hr.units
  have nd := scCk.nd
  refine ⟨_, PSs.nox (pss_cons (ps_par (i := 1) (j := 2) rfl nd rfl rfl (by decide) rfl rfl (pa_cons (pe_call (E := E0) GP (hr.mono (by decide)) (by rfl) gP kP bP .nil pass0 (pa_cons (pv 0) (pa_cons (pe_lst (pa_cons (pe_un un_neg pe_int) (pa_cons pe_int (pa_cons pe_int (pa_cons (pe_op op_pow pe_int pe_int) (pa_cons (pe_un un_neg (pe_op op_pow pe_int pe_int)) pa_nil)))))) pa_nil)))
      (pa_cons (pe_call (E := E0) GD (hr.mono (by decide)) (by rfl) gD kD bD .nil pass0 (pa_cons (pv 0) (pa_cons pe_int pa_nil))) pa_nil)) (by rfl))
    (pss_cons (ps_set (i := 3) nd rfl (.inl rfl) (pe_op op_add (pv 1) (pv 2)))
    (pss_cons (ps_set (i := 4) nd rfl (.inl rfl) (pe_lst (pa_cons pe_non (pa_cons pe_bl (pa_cons pe_bl (pa_cons pe_int (pa_cons pe_int (pa_cons (pe_op op_sub (pv 1) pe_int) (pa_cons (pv 1) (pa_cons (pv 3) (pa_cons (pe_op op_add (pv 3) pe_int) (pa_cons (pe_op op_pow pe_int pe_int) (pa_cons (pe_lst (pa_cons pe_int pa_nil)) (pa_cons (pe_tup (pa_cons pe_str pa_nil))
        (pa_cons pe_dnewK (pa_cons pe_str (pa_cons pe_str (pa_cons pe_str (pa_cons pe_str (pa_cons pe_str pa_nil))))))))))))))))))))
    (pss_cons (ps_for PassesOwn.never rfl (pi_list (pe_lst (pa_cons (pe_call (E := E0) GP (hr.mono (by decide)) (by rfl) gP kP bP .nil pass0 (pa_cons (pv 0) (pa_cons (pv 4) pa_nil))) (pa_cons (pe_call (E := E0) GP (hr.mono (by decide)) (by rfl) gP kP bP .nil pass0 (pa_cons (pv 0) (pa_cons (pv 4) pa_nil)))
          (pa_cons (pe_call (E := E0) GP (hr.mono (by decide)) (by rfl) gP kP bP .nil pass0 (pa_cons (pv 0) (pa_cons (pe_call0 (E := E0) G4 (hr.mono (by decide)) (by rfl) g4 k4 b4 .nil pass0) pa_nil))) pa_nil))))) (pg_name (i := 5) nd rfl (.inl rfl))
        (pss_cons (ps_set (i := 6) nd rfl (.inl rfl) (pe_and (pe_callB call_isi (by rfl) (T.fr "isinstance" (by decide)) PyProof.Rows.boot_isinstance (pa_cons (pv 5) (pa_cons (pe_bltn (v := .ty "int") (by rfl) (T.fr "int" (by decide)) boot_int rfl) pa_nil)))
            (pe_one (pe_not (pe_callB call_isi (by rfl) (T.fr "isinstance" (by decide)) PyProof.Rows.boot_isinstance (pa_cons (pv 5) (pa_cons (pe_bltn (v := .ty "bool") (by rfl) (T.fr "bool" (by decide)) boot_T rfl) pa_nil)))))))
        (pss_cons (ps_set (i := 7) nd rfl (.inl rfl) (pe_lst1 (pa_cons (pv 6) (pa_cons (pe_and (pe_callB call_isi (by rfl) (T.fr "isinstance" (by decide)) PyProof.Rows.boot_isinstance (pa_cons (pv 5) (pa_cons (pe_bltn (v := .ty "str") (by rfl) (T.fr "str" (by decide)) boot_T rfl) pa_nil)))
              (pe_one (pe_call (E := E0) GF (hr.mono (by decide)) (by rfl) gF kF bF .nil pass0 (pa_cons (pe_callTy SkE.call_str_str (by rfl) (T.fr "str" (by decide)) boot_T (pa_cons (pv 5) pa_nil)) pa_nil))))
            (pa_cons (pe_and (pv 6) (pe_one (pe_cmpR op_in_rng (pv 5) (pe_callTy cr_range2 (by rfl) (T.fr "range" (by decide)) boot_T (pa_cons (pv 1) (pa_cons (pe_op op_add (pv 3) pe_int) pa_nil))) rfl))) pa_nil)))))
        (pss_cons (ps_if (pt_cmpR op_ne (pe_callB (call_repr hG hu) (by rfl) (T.fr "repr" (by decide)) PyProof.Rows.boot_repr (pa_cons (pe_lst1 (pa_cons (pe_call (E := E0) G1 (hr.mono (by decide)) (by rfl) g1 k1 b1 .nil pass0 (pa_cons (pv 5) pa_nil)) (pa_cons (pe_call (E := E0) G2 (hr.mono (by decide)) (by rfl) g2 k2 b2 .nil pass0 (pa_cons (pv 5) pa_nil))
              (pa_cons (pe_call (E := E0) G3 (hr.mono (by decide)) (by rfl) g3 k3 b3 .nil pass0 (pa_cons (pv 5) (pa_cons (pv 1) (pa_cons (pv 3) pa_nil)))) pa_nil)))) pa_nil))
            (pe_callB (call_repr hG hu) (by rfl) (T.fr "repr" (by decide)) PyProof.Rows.boot_repr (pa_cons (pv 7) pa_nil)) (nomark _)) (pss_one (ps_ret pe_bl)) pss_nil)
        (pss_one (ps_if (pt_cmpR op_ne (pe_callB (call_repr hG hu) (by rfl) (T.fr "repr" (by decide)) PyProof.Rows.boot_repr (pa_cons (pe_lst1 (pa_cons (pe_callKw (E := E0) G1 (hr.mono (by decide)) (by rfl) g1 k1 b1k pass0 (pk_cons (pv 5) pk_nil)) (pa_cons (pe_callKw (E := E0) G2 (hr.mono (by decide)) (by rfl) g2 k2 b2k pass0 (pk_cons (pv 5) pk_nil))
              (pa_cons (pe_callKw (E := E0) G3 (hr.mono (by decide)) (by rfl) g3 k3 b3k pass0 (pk_cons (pv 3) (pk_cons (pv 5) (pk_cons (pv 1) pk_nil)))) pa_nil)))) pa_nil))
            (pe_callB (call_repr hG hu) (by rfl) (T.fr "repr" (by decide)) PyProof.Rows.boot_repr (pa_cons (pv 7) pa_nil)) (nomark _)) (pss_one (ps_ret pe_bl)) pss_nil))))))
    (pss_one (ps_ret pe_bl)))))), ?_⟩
  rfl
end
end K2

/-! text K2ChkB -/
set_option Elab.async false
set_option linter.all false
set_option maxRecDepth 100000
set_option maxHeartbeats 400000
namespace K2
open PySem PySem.Spec PyProof.Rows L2 RV EV He EF EI Hd LamX Kw Gd
theorem three_ok : ∀ a b c : Bool, (PyData.list [.bool a, .bool b, .bool c]).showable = true ∧ (PyData.list [.bool a, .bool b, .bool c]).depth ≤ 20 ∧ RV.up (.list [.bool a, .bool b, .bool c]) ≤ sizeLine := by decide +kernel
theorem rep3 {H : Hp} {Q : VK} {r : Addr} {a b c : Bool} (h : H r = some (.lst [.bl a, .bl b, .bl c])) (n : r ≠ sysModules) (k : Q (.str (PyData.shown (.list [.bool a, .bool b, .bool c]))) H) : rRepr [.ref r] H Q := by
  obtain ⟨h1, h2, h3⟩ := three_ok a b c
  exact ⟨r, _, rfl, .lst h n (.cons (.bl a) (.cons (.bl b) (.cons (.bl c) .nil))), h1, h2, Nat.le_trans (up_ok _) h3, k⟩
section
variable {K : PySem.W.Frag} {H : Hp} {pen : Addr} {v : V} {t : String} {bi bb bs fx wi : Bool} {lo hi : Int} {a0 a2 a4 a6 a7 : Option V} {Q : VK}
theorem isN_read {σ : L2.St} (h5 : σ[5]? = some (some v)) (T : Ty3 K H v t bi bb bs) (k : Q (.bl (bi && !bb)) H) : tIsN K σ H Q := by
  refine ⟨v, h5, v, .ty "int", _, _, bi, rfl, .ty _, T.ty, kit_ty T.hi, bi, rfl, ?_⟩
  cases bi with
  | true => exact if_posB rfl ⟨v, h5, v, .ty "bool", _, _, bb, rfl, .ty _, T.ty, kit_ty T.hb, bb, rfl, by simpa using k⟩
  | false => exact if_negB rfl (by simpa using k)
theorem wishB_ok {x : Str} (h : wishB x = true) : x.length ≤ 50 ∧ ∀ c ∈ x.cps.toList, PyData.strOk (one c) = true := by
  obtain ⟨h1, h2⟩ := Bool.and_eq_true_iff.mp h
  exact ⟨of_decide_eq_true h1, List.all_eq_true.mp h2⟩
theorem due_read (T : ∀ H', Same H H' → Ty3 K H' v t bi bb bs)
    (k : ∀ H' p fx wi, Same H H' → H' p = some (.lst [.bl (bi && !bb), .bl fx, .bl wi]) → p ≠ sysModules → Fx bs v fx → Wi (bi && !bb) v lo hi wi → Q (.ref p) H') :
    tDue K [a0, some (.int lo), a2, some (.int hi), a4, some v, some (.bl (bi && !bb)), a7] H Q := by
  have T0 := T H fun _ _ e => e
  -- behind is_fix
  have last : ∀ H1 fx, Same H H1 → Fx bs v fx → ∃ v2, (some (some (V.bl (bi && !bb)))) = some (some v2) ∧ ∃ c, v2 = .bl c ∧ (if c = true then tOp rInR (tVar 5) (tCB rRg2 (tCons (tVar 1) (tCons (tOp (rI0 fun i j => V.int (i + j)) (tVar 3) (tC (V.int 1))) tNil))) [a0, some (.int lo), a2, some (.int hi), a4, some v, some (.bl (bi && !bb)), a7] H1 (fun x H2 => tNil [a0, some (.int lo), a2, some (.int hi), a4, some v, some (.bl (bi && !bb)), a7] H2 fun ys H3 => [V.bl (bi && !bb), .bl fx, x].length ≤ sizeLine ∧ ∀ (p : Addr), H3 p = none → p ≠ sysModules → Q (V.ref p) (upd H3 p (HO.lst (V.bl (bi && !bb) :: .bl fx :: x :: ys)))) else (fun x H2 => tNil [a0, some (.int lo), a2, some (.int hi), a4, some v, some (.bl (bi && !bb)), a7] H2 fun ys H3 => [V.bl (bi && !bb), .bl fx, x].length ≤ sizeLine ∧ ∀ (p : Addr), H3 p = none → p ≠ sysModules → Q (V.ref p) (upd H3 p (HO.lst (V.bl (bi && !bb) :: .bl fx :: x :: ys)))) (.bl false) H1) := by
    intro H1 fx s1 F
    refine ⟨_, rfl, _, rfl, ?_⟩
    cases hn : (bi && !bb) with
    | true =>
      obtain ⟨i, rfl⟩ := T0.fi hn
      refine if_posB rfl ⟨_, rfl, _, rfl, _, rfl, hi, 1, rfl, rfl, lo, hi + 1, rfl, fun p np => ⟨i, p, lo, hi + 1, rfl, rfl, upd_same, (by show 3 ≤ sizeLine; decide), fun q nq sq => ?_⟩⟩
      rw [hn] at k
      refine k _ q fx (decide (lo ≤ i ∧ i < hi + 1)) (s1.trans ((same_new np).trans (same_new nq))) upd_same sq F (.inr ⟨rfl, i, rfl, ?_⟩)
      rw [← Bool.decide_and]
      exact decide_eq_decide.mpr ⟨fun h => ⟨h.1, by omega⟩, fun h => ⟨h.1, by omega⟩⟩
    | false =>
      refine if_negB rfl ⟨(by show 3 ≤ sizeLine; decide), fun q nq sq => ?_⟩
      rw [hn] at k
      exact k _ q fx false (s1.trans (same_new nq)) upd_same sq F (.inl ⟨rfl, rfl⟩)
  refine ⟨_, rfl, v, rfl, v, .ty "str", _, _, bs, rfl, .ty _, T0.ty, kit_ty T0.hs, bs, rfl, ?_⟩
  cases hb : bs with
  | true =>
    obtain ⟨x, rfl, hx⟩ := T0.fs hb
    obtain ⟨x1, x2⟩ := wishB_ok hx
    exact if_posB rfl ⟨_, rfl, x, rfl, x, rfl, by omega, x2, fun H' s => last H' _ s (.inr ⟨hb, x, rfl, hx, rfl⟩)⟩
  | false => exact if_negB rfl (last H false (fun _ _ e => e) (.inl ⟨hb, rfl⟩))
theorem fx_str {x : Str} (h : Fx bs v fx) (hb : bs = true) (e : v = .str x) : fx = isFixB x := by
  rcases h with ⟨z, _⟩ | ⟨_, y, ey, _, ef⟩
  · rw [hb] at z; cases z
  · rw [e] at ey
    cases ey
    exact ef
theorem fix_sp {R : VK} (T : Ty3 K H v t bi bb bs) (F : Fx bs v fx) (E : XK) (k : ∀ H', Same H H' → R (.bl fx) H') : spFix K [v] H R E := by
  rcases F with ⟨hb, rfl⟩ | ⟨_, x, rfl, hx, rfl⟩
  · exact ⟨v, rfl, .inr ⟨t, T.ty, by rw [T.hs, hb], k H fun _ _ e => e⟩⟩
  · obtain ⟨x1, _⟩ := wishB_ok hx
    exact ⟨_, rfl, .inl ⟨x, rfl, by omega, k⟩⟩
theorem wi_sp {R : VK} (T : Ty3 K H v t bi bb bs) (W : Wi (bi && !bb) v lo hi wi) (E : XK) (k : R (.bl wi) H) : spWithin K [v, .int lo, .int hi] H R E := by
  rcases W with ⟨hb, rfl⟩ | ⟨hb, i, rfl, rfl⟩
  · exact ⟨v, t, bi, bb, lo, hi, rfl, T.ty, T.hi, T.hb, .inl ⟨hb, k⟩⟩
  · exact ⟨_, t, bi, bb, lo, hi, rfl, T.ty, T.hi, T.hb, .inr ⟨hb, i, rfl, k⟩⟩
theorem ans_read {σ : L2.St} (h1 : σ[1]? = some (some (.int lo))) (h3 : σ[3]? = some (some (.int hi))) (h5 : σ[5]? = some (some v)) (T : ∀ H', Same H H' → Ty3 K H' v t bi bb bs) (F : Fx bs v fx) (W : Wi (bi && !bb) v lo hi wi)
    (k : ∀ H' p, Same H H' → H' p = some (.lst [.bl (bi && !bb), .bl fx, .bl wi]) → p ≠ sysModules → Q (.ref p) H') : tAns K σ H Q := by
  have T0 := T H fun _ _ e => e
  refine ⟨v, h5, v, t, bi, bb, rfl, T0.ty, T0.hi, T0.hb, v, h5, ?_⟩
  try unfold tNil
  show spFix K [v] H _ _
  refine fix_sp T0 F _ fun H1 s1 => ⟨v, h5, _, h1, _, h3, ?_⟩
  try unfold tNil
  show spWithin K [v, .int lo, .int hi] H1 _ _
  refine wi_sp (T H1 s1) W _ ⟨by show 3 ≤ sizeLine; decide, fun q nq sq => ?_⟩
  exact k _ q (s1.trans (same_new nq)) upd_same sq
theorem ansK_read {σ : L2.St} (h1 : σ[1]? = some (some (.int lo))) (h3 : σ[3]? = some (some (.int hi))) (h5 : σ[5]? = some (some v)) (T : ∀ H', Same H H' → Ty3 K H' v t bi bb bs) (F : Fx bs v fx) (W : Wi (bi && !bb) v lo hi wi)
    (k : ∀ H' p, Same H H' → H' p = some (.lst [.bl (bi && !bb), .bl fx, .bl wi]) → p ≠ sysModules → Q (.ref p) H') : tAnsK K σ H Q := by
  have T0 := T H fun _ _ e => e
  refine ⟨v, h5, rfl, v, t, bi, bb, rfl, T0.ty, T0.hi, T0.hb, v, h5, rfl, ?_⟩
  try unfold tNil
  show spFix K [v] H _ _
  refine fix_sp T0 F _ fun H1 s1 => ⟨_, h3, v, h5, _, h1, rfl, ?_⟩
  try unfold tNil
  show spWithin K [v, .int lo, .int hi] H1 _ _
  refine wi_sp (T H1 s1) W _ ⟨by show 3 ≤ sizeLine; decide, fun q nq sq => ?_⟩
  exact k _ q (s1.trans (same_new nq)) upd_same sq
theorem off_read {σ : L2.St} {te : TE} {D : Ends} {d : Addr} {n : Bool} (h7 : σ[7]? = some (some (.ref d))) (hd : H d = some (.lst [.bl n, .bl fx, .bl wi])) (nd : d ≠ sysModules)
    (ht : ∀ R : VK, (∀ H' p, Same H H' → H' p = some (.lst [.bl n, .bl fx, .bl wi]) → p ≠ sysModules → R (.ref p) H') → te σ H R) (k : ∀ H', Same H H' → D.nx σ H') : tOff te D σ H := by
  refine ht _ fun H1 p s1 hp np => ?_
  try unfold tNil
  show rRepr [V.ref p] H1 _
  refine rep3 hp np ⟨_, h7, ?_⟩
  try unfold tNil
  show rRepr [V.ref d] H1 _
  refine rep3 (s1 _ _ hd) nd ⟨rfl, _, rfl, ?_⟩
  refine if_negB (by simp) (k H1 s1)
theorem turn_read {D : Ends} (hk : Kd pen H v) (k : ∀ H' x6 x7, Same H H' → D.nx [a0, some (.int lo), a2, some (.int hi), a4, some v, x6, x7] H') : tTurnC K D [a0, some (.int lo), a2, some (.int hi), a4, some v, a6, a7] H := by
  obtain ⟨t, bi, bb, bs, T⟩ := hk.ty (K := K)
  unfold tTurnC
  have step : tIsN K [a0, some (.int lo), a2, some (.int hi), a4, some v, a6, a7] H fun x H1 => gName 6 x [a0, some (.int lo), a2, some (.int hi), a4, some v, a6, a7] H1 (tSeq (tAsg (tDue K) (gName 7)) (tSeq (tOff (tAns K)) (tOff (tAnsK K))) D) := by
    refine isN_read rfl (T H fun _ _ e => e) ?_
    have s2 : tDue K [a0, some (.int lo), a2, some (.int hi), a4, some v, some (.bl (bi && !bb)), a7] H fun x H1 => gName 7 x [a0, some (.int lo), a2, some (.int hi), a4, some v, some (.bl (bi && !bb)), a7] H1 (tSeq (tOff (tAns K)) (tOff (tAnsK K)) D) := by
      refine due_read T fun H1 d fx wi s1 hd nd F W => ?_
      have s3 : tOff (tAns K) { D with nx := tOff (tAnsK K) D } [a0, some (.int lo), a2, some (.int hi), a4, some v, some (.bl (bi && !bb)), some (.ref d)] H1 := by
        refine off_read rfl hd nd (fun R kR => ans_read (t := t) (bi := bi) (bb := bb) (bs := bs) (lo := lo) (hi := hi) (v := v) rfl rfl rfl (fun H' s' => T H' (s1.trans s')) F W kR) fun H2 s2 => ?_
        exact off_read rfl (s2 _ _ hd) nd (fun R kR => ansK_read (t := t) (bi := bi) (bb := bb) (bs := bs) (lo := lo) (hi := hi) (v := v) rfl rfl rfl (fun H' s' => T H' (s1.trans (s2.trans s'))) F W kR) fun H3 s3 => k H3 _ _ (s1.trans (s2.trans s3))
      exact s3
    exact s2
  exact step
end
end K2

/-! text K2ChkC -/
set_option Elab.async false
set_option linter.all false
set_option maxRecDepth 100000
set_option maxHeartbeats 400000
namespace K2
open PySem PySem.Spec PyProof.Rows L2 RV EV He EF EI Hd LamX Kw Gd
theorem wl : wordsL.map V.str ≠ [] ∧ (wordsL.map V.str).length < 1000 := by
  have h : 0 < wordsL.length ∧ wordsL.length < 1000 := by decide +kernel
  refine ⟨fun e => ?_, by rw [List.length_map]; exact h.2⟩
  have z := congrArg List.length e
  rw [List.length_map] at z
  have := h.1
  simp at z
  rw [z] at this
  cases this
theorem word_wish {x : Str} (h : x ∈ wordsL) : wishB x = true := by
  obtain ⟨h1, _, _, _, h5, _⟩ := word_ok h
  exact Bool.and_eq_true_iff.mpr ⟨decide_eq_true h1, List.all_eq_true.mpr h5⟩
section
variable {K : PySem.W.Frag} {H : Hp} {pen ce : Addr} {cs : List Int} {b g : Int} {lo hi : Int} {a1 a2 a3 a4 a5 a6 a7 : Option V} {Q : VK}
theorem none_ne {H : Hp} {p q : Addr} {o : HO} (hp : H p = none) (hq : H q = some o) : p ≠ q := fun e => by
  rw [e, hq] at hp
  cases hp
theorem some_read {o : HO} (hpen : H pen = some o) (k : ∀ L xs H', Same H H' → H L = none → H' L = some (.lst xs) → xs ≠ [] → xs.length < 1000 → (∀ x ∈ xs, Kd pen H' x) → Q (.ref L) H') :
    tSome [some (.ref pen), some (.int lo), a2, some (.int hi), a4, a5, a6, a7] H Q := by
  refine ⟨_, rfl, lo, 1, rfl, rfl, _, rfl, _, rfl, _, rfl, hi, 1, rfl, rfl, 10, 39, rfl, rfl, ⟨by decide, by decide, by decide⟩, (by show 1 ≤ sizeLine; decide), fun p1 n1 => ⟨(by show 1 ≤ sizeLine; decide), fun p2 n2 p3 n3 => ⟨(by show 18 ≤ sizeLine; decide), fun L nL => ?_⟩⟩⟩
  have e1 := same_new (o := .lst [V.int 1]) n1
  have e2 := same_new (o := .tup [V.str "f"]) n2
  have e3 := same_new (o := .dK []) n3
  have eL := same_new (o := .lst [V.non, .bl true, .bl false, .int 0, .int 1, .int (lo - 1), .int lo, .int hi, .int (hi + 1), .int (10 ^ Int.toNat 39), .ref p1, .ref p2, .ref p3, .str "f g", .str "f\n", .str "ab", .str "F", .str "zzzzzzzz"]) nL
  have q1 := e1 _ _ hpen
  have q2 := e2 _ _ q1
  refine k L _ _ (e1.trans (e2.trans (e3.trans eL))) ?_ upd_same (by simp) (by simp) ?_
  · cases z : H L with
    | none => rfl
    | some o =>
      rw [e3 _ _ (e2 _ _ (e1 _ _ z))] at nL
      cases nL
  · intro x hx
    simp only [List.mem_cons, List.not_mem_nil, or_false] at hx
    rcases hx with rfl | rfl | rfl | rfl | rfl | rfl | rfl | rfl | rfl | rfl | rfl | rfl | rfl | rfl | rfl | rfl | rfl | rfl
    · exact .non
    · exact .bl _
    · exact .bl _
    · exact .int _
    · exact .int _
    · exact .int _
    · exact .int _
    · exact .int _
    · exact .int _
    · exact .int _
    · exact .lst (none_ne n1 hpen) (eL _ _ (e3 _ _ (e2 _ _ upd_same)))
    · exact .tup (none_ne n2 q1) (eL _ _ (e3 _ _ upd_same))
    · exact .dic (none_ne n3 q2) (eL _ _ upd_same)
    · exact .str _ (by decide +kernel)
    · exact .str _ (by decide +kernel)
    · exact .str _ (by decide +kernel)
    · exact .str _ (by decide +kernel)
    · exact .str _ (by decide +kernel)
theorem three_read {L4 : Addr} {xs : List V} (N : Pen H pen ce cs b g) (hb : b ≤ 950) (n4 : L4 ≠ pen) (h4 : H L4 = some (.lst xs)) (hx : xs ≠ []) (hz : xs.length < 1000) (hk : ∀ x ∈ xs, Kd pen H x)
    (k : ∀ L x y z H' b' g', b' ≤ b + 3 → Pen H' pen ce cs b' g' → (∀ c o, c ≠ pen → H c = some o → H' c = some o) → H' L = some (.lst [x, y, z]) → Kd pen H' x → Kd pen H' y → Kd pen H' z → Q (.ref L) H') :
    tThree [some (.ref pen), a1, a2, a3, some (.ref L4), a5, a6, a7] H Q := by
  refine ⟨_, rfl, _, rfl, pen, ce, L4, cs, b, g, xs, rfl, N, by omega, n4, h4, hx, hz, fun x b1 g1 H1 mx hb1 N1 k1 => ?_⟩
  refine ⟨_, rfl, _, rfl, pen, ce, L4, cs, b1, g1, xs, rfl, N1, by omega, n4, k1 _ _ n4 h4, hx, hz, fun y b2 g2 H2 my hb2 N2 k2 => ?_⟩
  refine ⟨_, rfl, rfl, fun l H3 nl s3 hl => ⟨pen, ce, l, cs, b2, g2, _, rfl, N2.same s3, by omega, none_ne nl N2.pn, hl, wl.1, wl.2, fun z b3 g3 H4 mz hb3 N4 k4 => ?_⟩⟩
  refine ⟨(by show 3 ≤ sizeLine; decide), fun L nL => ?_⟩
  have eL := same_new (o := .lst [x, y, z]) nL
  have kall : ∀ c o, c ≠ pen → H1 c = some o → (upd H4 L (.lst [x, y, z])) c = some o := fun c o hc e => eL _ _ (k4 c o hc (s3 _ _ (k2 c o hc e)))
  refine k L x y z _ b3 g3 (by omega) (N4.same eL) (fun c o hc e => kall c o hc (k1 c o hc e)) upd_same (((hk x mx).keep k1).keep kall) (((hk y my).keep k1).keep kall) ?_
  obtain ⟨w, hw, rfl⟩ := List.mem_map.mp mz
  exact .str w (word_wish hw)
theorem beg_read {nx : L2.St → Hp → Prop} {rt : VK} (N : Pen H pen ce cs b g) (hb : b ≤ 950)
    (k : ∀ lo r H' b' g', b' ≤ b + 2 → Pen H' pen ce cs b' g' → (∀ c o, c ≠ pen → H c = some o → H' c = some o) → nx [some (.ref pen), some (.int lo), some (.int r), a3, a4, a5, a6, a7] H') :
    tBeg { nx := nx, rt := rt } [some (.ref pen), a1, a2, a3, a4, a5, a6, a7] H := by
  refine ⟨_, rfl, 5, rfl, 10, 30, rfl, rfl, ⟨by decide, by decide, by decide⟩, 10, 39, rfl, rfl, ⟨by decide, by decide, by decide⟩, _, rfl, (by show 5 ≤ sizeLine; decide), fun l nl => ?_⟩
  have el := same_new (o := .lst [V.int (-5), V.int 0, V.int 1, V.int (10 ^ Int.toNat 30), V.int (-(10 ^ Int.toNat 39))]) nl
  refine ⟨pen, ce, l, cs, b, g, _, rfl, N.same el, by omega, none_ne nl N.pn, upd_same, by simp, by simp, fun x b1 g1 H1 mx hb1 N1 k1 => ?_⟩
  have hx : ∃ lo, x = .int lo := by
    simp only [List.mem_cons, List.not_mem_nil, or_false] at mx
    rcases mx with rfl | rfl | rfl | rfl | rfl <;> exact ⟨_, rfl⟩
  obtain ⟨lo, rfl⟩ := hx
  refine ⟨_, rfl, pen, ce, cs, b1, g1, 9, rfl, N1, by omega, by decide, by decide, fun r b2 g2 H2 r0 r9 hb2 N2 k2 => ⟨_, _, rfl, ?_⟩⟩
  exact k lo r H2 b2 g2 (by omega) N2 fun c o hc e => k2 c o hc (k1 c o hc (el _ _ e))
theorem thr_read {D : Ends} {L : Addr} {xs : List V} (N : Pen H pen ce cs b g) (hb : b ≤ 950) (n4 : L ≠ pen) (h4 : H L = some (.lst xs)) (hx : xs ≠ []) (hz : xs.length < 1000) (hk : ∀ x ∈ xs, Kd pen H x)
    (k : ∀ σ H' b' g', b' ≤ b + 3 → Pen H' pen ce cs b' g' → (∀ c o, c ≠ pen → H c = some o → H' c = some o) → D.nx σ H') :
    tFor (iList K tThree) (gName 5) (tTurnC K) D [some (.ref pen), some (.int lo), a2, some (.int hi), some (.ref L), a5, a6, a7] H := by
  unfold tFor iList
  refine three_read N hb n4 h4 hx hz hk fun A x y z H3 b3 g3 hb3 N3 k3 hA kx ky kz => ⟨A, rfl, ⟨_, SqL.of hA⟩, ?_⟩
  refine for_list (K := K) (a := A) (xs := [x, y, z]) (tb := tTurnC K) (g := gName 5) (D := D) (fun i σ' H' => (∃ a5 a6 a7, σ' = [some (.ref pen), some (.int lo), a2, some (.int hi), some (.ref L), a5, a6, a7]) ∧ Same H3 H') ⟨⟨_, _, _, rfl⟩, fun _ _ e => e⟩ (fun i σ' H' _ p => SqL.of (p.2 _ _ hA)) ?_ ?_
  · rintro i v σ' H' hv ⟨⟨a5, a6, a7, rfl⟩, s⟩
    have kd : Kd pen H' v := by
      have hm := List.mem_of_getElem? hv
      simp only [List.mem_cons, List.not_mem_nil, or_false] at hm
      rcases hm with rfl | rfl | rfl
      · exact kx.same s
      · exact ky.same s
      · exact kz.same s
    exact turn_read kd fun H'' x6 x7 s' => ⟨⟨_, _, _, rfl⟩, s.trans s'⟩
  · rintro σ' H' ⟨_, s⟩
    exact k σ' H' b3 g3 hb3 (N3.same s) fun c o hc e => s _ _ (k3 c o hc e)
theorem asg_read {σ : L2.St} {D : Ends} {i : Nat} {te : TE} (h : te σ H fun x H1 => D.nx (σ.set i (some x)) H1) : tAsg te (gName i) D σ H := h
theorem seq_read {σ : L2.St} {D : Ends} {s1 s2 : TS} (h : s1 { D with nx := s2 D } σ H) : tSeq s1 s2 D σ H := h
theorem mid_read {D : Ends} {r : Int} (N : Pen H pen ce cs b g) (hb : b ≤ 940) 
    (k : ∀ σ H' b' g', b' ≤ b + 3 → Pen H' pen ce cs b' g' → (∀ c o, c ≠ pen → H c = some o → H' c = some o) → D.nx σ H') :
    tSeq (tAsg tSome (gName 4)) (tFor (iList K tThree) (gName 5) (tTurnC K)) D [some (.ref pen), some (.int lo), some (.int r), some (.int hi), none, none, none, none] H := by
  refine seq_read (asg_read (some_read N.pn fun L xs H2 s2 nL hL hx hz hk => ?_))
  have st := thr_read (K := K) (D := D) (lo := lo) (hi := hi) (a2 := some (.int r)) (a5 := none) (a6 := none) (a7 := none) (N.same s2) (by omega) (none_ne nL N.pn) hL hx hz hk fun σ H' b' g' hb' N' k' => k σ H' b' g' hb' N' fun c o hc e => k' c o hc (s2 _ _ e)
  exact st
theorem read_chk {E : XK} {vs : List V} (h : spChk vs H Q E) : tChk K { nx := fun _ H' => Q .non H', rt := Q } (L2.start scCk_N vs) H := by
  obtain ⟨pen, ce, cs, b, g, rfl, N, hb, k⟩ := h
  have e : L2.start scCk_N [.ref pen] = [some (.ref pen), none, none, none, none, none, none, none] := rfl
  rw [e]
  unfold tChk
  refine seq_read (beg_read (a1 := none) (a2 := none) N (by omega) fun lo r H1 b1 g1 hb1 N1 k1 => ?_)
  refine seq_read (asg_read ⟨_, rfl, _, rfl, lo, r, rfl, rfl, ?_⟩)
  have st := mid_read (K := K) (lo := lo) (hi := lo + r) (r := r) (D := { nx := tRet (tC (V.bl true)) { nx := fun _ H' => Q .non H', rt := Q }, rt := Q }) N1 (by omega) fun σ' H' b' g' hb' N' k' => k H' b' g' (by omega) N' fun c o hc e => k' c o hc (k1 c o hc e)
  exact st
end
end K2

/-! text K2ChkD -/
set_option Elab.async false
set_option linter.all false
set_option maxRecDepth 100000
set_option maxHeartbeats 400000
namespace K2
open PySem PySem.Spec PyProof.Rows L2 RV EV He EF EI Hd LamX Kw Gd
section
variable {P : Program} {w : World} {K : PySem.W.Frag} {mg : Str → Option Value} {base : Heap}
theorem ok_chk (T : KF P w K mg base) : ∃ fd, FnG P w K mg base CX0 4 (ga K "_law_checks_right") fd ["_law_pen_here"] spChk ∧ L2.Binds K fd ["_law_pen_here"] [] ∧ PySem.W.keepIn K (.ref (ga K "_law_checks_right")) = true ∧ mg "_law_checks_right" = some (.ref (ga K "_law_checks_right")) := by
  obtain ⟨fd, F, g⟩ := T.tops ("_law_checks_right", 24) (by decide)
  have b : L2.Binds K fd ["_law_pen_here"] [] := FunD.bindsN F fun _ _ _ _ _ _ us hl => match us, hl with | [_], _ => rfl
  refine ⟨fd, Gd.ofD F scCk (fun vs H Q E h => ?_) (fun cdv A outer s H vs Q E hG hr h => ?_), b, F.kp, g⟩
  · obtain ⟨pen, ce, cs, b, g, rfl, _⟩ := h
    rfl
  · obtain ⟨t, ht, rfl⟩ := code_chk (E := E) T hG hr
    exact ⟨_, ht, read_chk h⟩
end
end K2

/-! text K2Rt -/
set_option Elab.async false
set_option linter.all false
set_option maxRecDepth 100000
set_option maxHeartbeats 1000000
namespace K2
open PySem PySem.Spec PyProof.Rows L2 RV EV He EF EI Hd LamX Kw Gd
theorem passL {X : Cx} : Passes (L2.CX X.prog X.w) X E0 := fun _ _ _ _ _ _ _ h => by
  obtain ⟨_, _, _, _, _, _, _, _, _, _, _, _, z⟩ := h
  exact z.elim
/-! _law_right (25). -/
abbrev sRt : Stmt := top 26
abbrev scR_N : List Str := ["_law_pen_here", "_law_turn", "_law_some", "_law_text", "_law_line", "_law_words", "_law_spot", "_law_heard_here", "_law_due", "_law_word"]
theorem scR : FnScope scR_N ["_law_pen_here"] (defScope sRt) := ⟨rfl, rfl, rfl, by decide +kernel, rfl, by decide +kernel, by decide +kernel⟩
abbrev rLenT (K : PySem.W.Frag) : List V → Hp → VK → Prop := fun xs H Q => ∃ p ys, xs = [V.ref p] ∧ (SqL K H p ys ∨ SqT K H p ys) ∧ Q (V.int ↑ys.length) H
abbrev rJoinT (K : PySem.W.Frag) : V → List V → Hp → VK → Prop := fun x xs H Q => ∃ a p, ∃ ys : List Str, x = V.str a ∧ xs = [V.ref p] ∧ (SqL K H p (List.map V.str ys) ∨ SqT K H p (List.map V.str ys)) ∧ (List.map (fun x => x.length) ys).sum + ys.length * a.length ≤ 16777216 ∧ Q (V.str (Txt.join a ys)) H
abbrev rSplitT : V → List V → Hp → VK → Prop := fun x xs H Q => ∃ a b, x = V.str a ∧ xs = [V.str b] ∧ (b.length == 0) = false ∧ a.length + 2 ≤ sizeLine ∧ rNewStrs (Txt.split a b) H Q
abbrev rNotNo : R2 := fun x y H Q => y = V.non ∧ Q (V.bl (!decide (x = V.non))) H
def tR1 : TS := tAsg (tLc (iRng1 (tCons (tCall spDraw [] E0 (tCons (tVar 0) (tCons (tC (V.int 9)) tNil))) tNil)) (gName 1) tYes (tCall spPick [] E0 (tCons (tVar 0) (tCons (tCall spTexts [] E0 tNil) tNil))) [1]) (gName 2)
def tR2 (K : PySem.W.Frag) : TS := tPar 3 4 (tCons (tM1 (rJoinT K) (tC (V.str " ")) (tVar 2)) (tCons (tCall spPick [] E0 (tCons (tVar 0) (tCons (tLst (tCons (tC (V.int 0)) (tCons (tC (V.int 1)) (tCons (tC (V.int 7)) tNil)))) tNil))) tNil))
def tR3 (K : PySem.W.Frag) : TS := tAsg (tIf (tTest (tOp (rI0 fun i j => V.bl (decide (j < i))) (tVar 4) (tC (V.int 0)))) (tMake (gW K) (spInit K) [] E0 (tCons (tVar 3) (tCons (tVar 4) tNil))) (tMakeN (gW K) 0 1 (spInit K) (fun vs zs => vs ++ zs ++ [V.int 0]) E0 tNil (tCons (tVar 3) tNil))) (gName 5)
def tR4 : TS := tPar 2 6 (tCons (tM1 rSplitT (tVar 3) (tC (V.str " "))) (tCons (tC (V.int 0)) tNil))
def tT1 (K : PySem.W.Frag) : TS := tIfS (tNot (tB (tCall (spLR K) [] E0 (tCons (tVar 5) (tCons (tVar 6) (tCons (tCB (rLenT K) (tCons (tVar 2) tNil)) (tCons (tVar 4) tNil))))))) (tRet (tC (V.bl false))) tNext
def tT2 (K : PySem.W.Frag) : TS := tAsg (tCall (spCalled K) [] E0 (tCons (tVar 0) (tCons (tVar 5) (tCons (tSl (rSlL K) (tVar 2) (tPart (tVar 6)) tNoPart) tNil)))) (gTup K 2 (gCons (gName 7) (gCons (gName 8) gNil)))
def tT3 : TS := tIfS (tTest (tOp rNe (tCB rRepr (tCons (tVar 7) tNil)) (tCB rRepr (tCons (tIf (tTest (tOp rIsNo (tVar 8) (tC V.non))) (tTup (tCons (tVar 4) (tCons (tVar 6) tNil))) (tVar 8)) tNil)))) (tRet (tC (V.bl false))) tNext
def tT4 (K : PySem.W.Frag) : TS := tIfS (tAnd (tTest (tOp rNotNo (tVar 8) (tC V.non))) (tAnd (tTest (tOp (rNeD K) (tVar 8) (tLst (tCons (tC V.non) tNil)))) (tNot (tB (tCB (rIsi K) (tCons (tOp (rIxL K) (tVar 8) (tC (V.int 0))) (tCons (tC (V.ty "list")) tNil)))))))
  (tAsg (tOp (rI0 fun i j => V.int (i + j)) (tVar 6) (tC (V.int 1))) (gName 6)) tNext
def tT5 (K : PySem.W.Frag) (wi : TI) : TS := tIfS (tOr (tTest (tOp rNe (tProp (gW K) (spSpot K) [] E0 (tVar 5)) (tVar 6))) (tOr (tTest (tOp rNe (tCB (Ow.rLenO (gW K) (spLen K) E0) (tCons (tVar 5) tNil)) (tCB (rLenT K) (tCons (tVar 2) tNil))))
  (tOr (tTest (tOp (rNeD K) (tLc wi (gName 9) tYes (tVar 9) [9]) (tVar 2))) (tTest (tOp rNe (tCB (Ow.rBoolO (gW K) (spBool K) E0) (tCons (tVar 5) tNil)) (tOp (rI0 fun i j => V.bl (decide (i < j))) (tVar 6) (tCB (rLenT K) (tCons (tVar 2) tNil)))))))) (tRet (tC (V.bl false))) tNext
def tTurnR (K : PySem.W.Frag) (wi : TI) : TS := tSeq (tT1 K) (tSeq (tT2 K) (tSeq tT3 (tSeq (tT4 K) (tT5 K wi))))
def tRt (K : PySem.W.Frag) (wi : TI) : TS := tSeq tR1 (tSeq (tR2 K) (tSeq (tR3 K) (tSeq tR4 (tSeq (tFor (iRng1 (tCons (tC (V.int 12)) tNil)) (gName 1) (tTurnR K wi)) (tRet (tC (V.bl true)))))))
section
variable {P : Program} {w : World} {K : PySem.W.Frag} {mg : Str → Option Value} {base : Heap}
/-- what is asked of an object of Words but its methods that take -/
structure WW (P : Program) (w : World) (K : PySem.W.Frag) (mg : Str → Option Value) (base : Heap) : Prop where
  ln : ∃ fd, FnOk P w K mg base CX0 1 (mAd K "__len__") fd ["self"] (spLen K) ∧ L2.Binds K fd ["self"] []
  bo : ∃ fd, FnOk P w K mg base CX0 1 (mAd K "__bool__") fd ["self"] (spBool K) ∧ L2.Binds K fd ["self"] []
  sp : ∃ fd, FnOk P w K mg base CX0 1 (gtAt K (gW K) "spot") fd ["self"] (spSpot K) ∧ L2.Binds K fd ["self"] []
  ini : ∃ fd its, FnOk P w K mg base (L2.CX P w) 3 (mAd K "__init__") fd ["self", "text", "line"] (spInit K) ∧ L2.Binds K fd ["self", "text", "line"] [] ∧ KBn K fd ["self", "text", "line"] 1 ["text"] (fun us ws => us ++ ws ++ its) (fun vs zs => vs ++ zs ++ [.int 0])
  ini1 : ∃ fd ds, FnOk P w K mg base (L2.CX P w) 3 (mAd K "__init__") fd ["self", "text", "line"] (spInit K) ∧ L2.Binds K fd ["self", "text", "line"] ds ∧ Vals [.int 0] ds
  lr : ∃ fd, FnOk P w K mg base CX0 5 (ga K "_law_lost_right") fd ["_law_words", "_law_spot", "_law_many", "_law_line"] (spLR K) ∧ L2.Binds K fd ["_law_words", "_law_spot", "_law_many", "_law_line"] [] ∧ PySem.W.keepIn K (.ref (ga K "_law_lost_right")) = true ∧ mg "_law_lost_right" = some (.ref (ga K "_law_lost_right"))
theorem ww (T : KF P w K mg base) : WW P w K mg base := by
  obtain ⟨_, f1, F1⟩ := T.meth ("__len__", 2) (by decide)
  obtain ⟨_, f2, F2⟩ := T.meth ("__bool__", 4) (by decide)
  obtain ⟨f3, F3⟩ := T.get
  obtain ⟨f4, F4⟩ := T.ini
  obtain ⟨f5, F5, g5⟩ := T.tops ("_law_lost_right", 23) (by decide)
  obtain ⟨its, kb⟩ := FunD.kbindsD F4 (ps := ["self", "text", "line"]) 1 ["text"] (fun us its ws => us ++ ws ++ its) (fun z => nomatch z) (fun r1 r2 r3 => (r1.append r3).append r2) fun T kV doc pm an cdv ct us its ws h1 h2 h3 => match us, its, ws, h1, h2, h3 with
    | [_], [_], [_], _, _, _ => ⟨_, rfl, rfl⟩
  refine ⟨⟨f1, ok_len T F1, FunD.bindsN F1 fun _ _ _ _ _ _ us hl => match us, hl with | [_], _ => rfl⟩, ⟨f2, ok_bool T F2, FunD.bindsN F2 fun _ _ _ _ _ _ us hl => match us, hl with | [_], _ => rfl⟩, ⟨f3, ok_spot T F3, FunD.bindsN F3 fun _ _ _ _ _ _ us hl => match us, hl with | [_], _ => rfl⟩,
    ⟨f4, its, ok_init T F4, ?_, kb⟩, ?_, ⟨f5, ok_lr T F5, FunD.bindsN F5 fun _ _ _ _ _ _ us hl => match us, hl with | [_, _, _, _], _ => rfl, F5.kp, g5⟩⟩
  · obtain ⟨ds, r, b⟩ := FunD.binds1 F4 (ps := ["self", "text", "line"]) 3 1 (fun z => nomatch z) rfl fun T kV doc pm an cdv ct us its h1 h2 => match us, its, h1, h2 with
      | [_, _, _], [_], _, _ => ⟨_, rfl, rfl⟩
    cases r
    exact b
  · obtain ⟨ds, r, b⟩ := FunD.binds1 F4 (ps := ["self", "text", "line"]) 2 0 (fun z => nomatch z) rfl fun T kV doc pm an cdv ct us its h1 h2 => match us, its, h1, h2 with
      | [_, _], [_], _, _ => ⟨_, rfl, rfl⟩
    exact ⟨f4, ds, ok_init T F4, b, r⟩
theorem code_rt (T : KF P w K mg base) (TB : TabB base mg (cC K).1 (cC K).2) {f : Addr} {A : Around} {outer : List Env} {s : Shared} {H : Hp} {E : XK} {cdv : Value} (hG : A.guards = some []) (hr : Room 9 (A.deeper (envOfC "_law_right" (defScope sRt) s.heap.objs.size f cdv))) :
    ∃ t, PSs (cxOf CX0 P w K mg base scR_N "_law_right" (defScope sRt) f cdv A outer s H E) (defBody sRt) t ∧ t = tRt K (Ow.iOwn (cxOf CX0 P w K mg base scR_N "_law_right" (defScope sRt) f cdv A outer s H E).nox (gW K) 1 (mAd K "__iter__") (tVar 5)) := by
  obtain ⟨⟨fD, GD, bD, kD, gD⟩, ⟨fP, GP, bP, kP, gP⟩, _, _, _⟩ := cc T
  obtain ⟨_, _, _, ⟨f4, G4, b4, k4, g4⟩⟩ := ck T
  obtain ⟨⟨fl, Gl', bl⟩, ⟨fb, Gb, bb⟩, ⟨fs, Gs, bs⟩, ⟨fi, its, Gi, bi, kb⟩, _, ⟨fr, Gr, br, kr, gr⟩⟩ := ww T
  obtain ⟨fc, Gc, bc, kc, gc⟩ := ok_called T TB
  have hu := hr.units
  have nd := scR.nd
  refine ⟨_, PSs.nox (pss_cons (ps_setLc (i := 2) (y := "_law_some") (own := [("_law_turn", 1)]) (g := gName 1) (tt := tYes) (te := tCall spPick [] E0 (tCons (tVar 0) (tCons (tCall spTexts [] E0 tNil) tNil))) rfl nd rfl rfl (sw_true rfl rfl rfl (by decide +kernel)) (pi_range1 (by rfl) (T.fr "range" (by decide)) (pa_cons (pe_call (E := E0) GD (hr.mono (by decide)) (by rfl) gD kD bD .nil pass0 (pa_cons (pv 0) (pa_cons pe_int pa_nil))) pa_nil))
        (blkOk_by (N := scR_N) (sc := defScope sRt) (by decide +kernel)) (fun _ _ _ _ _ => pg_name (i := 1) nd rfl (.inl rfl)) (fun _ _ _ _ _ => pts_nil)
        (fun _ _ _ _ _ => pe_call (E := E0) GP (hr.mono (by decide)) (by rfl) gP kP bP .nil pass0 (pa_cons (pv 0) (pa_cons (pe_call0 (E := E0) G4 (hr.mono (by decide)) (by rfl) g4 k4 b4 .nil pass0) pa_nil))))
    (pss_cons (ps_par (i := 3) (j := 4) rfl nd rfl rfl (by decide) rfl rfl (pa_cons (pe_join pe_str (pv 2)) (pa_cons (pe_call (E := E0) GP (hr.mono (by decide)) (by rfl) gP kP bP .nil pass0 (pa_cons (pv 0) (pa_cons (pe_lst (pa_cons pe_int (pa_cons pe_int (pa_cons pe_int pa_nil)))) pa_nil))) pa_nil)) (by rfl))
    (pss_cons (ps_set (i := 5) nd rfl (.inl rfl) (pe_ifExp (pt_cmpR op_gt (pv 4) pe_int (nomark _)) (pe_make (E := E0) T.mkr Gi (hr.mono (by decide)) (by rfl) T.gw bi .nil passL (pa_cons (pv 3) (pa_cons (pv 4) pa_nil))) (pe_makeKw (E := E0) T.mkr Gi (hr.mono (by decide)) (by rfl) T.gw kb passL (pk_cons (pv 3) pk_nil))))
    (pss_cons (ps_par (i := 2) (j := 6) rfl nd rfl rfl (by decide) rfl rfl (pa_cons (pe_split (pv 3) pe_str) (pa_cons pe_int pa_nil)) (by rfl))
    (pss_cons (ps_for PassesOwn.never rfl (pi_range1 (by rfl) (T.fr "range" (by decide)) (pa_cons pe_int pa_nil)) (pg_name (i := 1) nd rfl (.inl rfl))
        (pss_cons (ps_if (pt_not (pt_val (pe_call (E := E0) Gr (hr.mono (by decide)) (by rfl) gr kr br .nil pass0 (pa_cons (pv 5) (pa_cons (pv 6) (pa_cons (pe_callB call_len_seq (by rfl) (T.fr "len" (by decide)) PySem.boot_len (pa_cons (pv 2) pa_nil)) (pa_cons (pv 4) pa_nil))))))) (pss_one (ps_ret pe_bl)) pss_nil)
        (pss_cons (ps_asg (pe_call (E := E0) Gc (hr.mono (by decide)) (by rfl) gc kc bc .nil pass0 (pa_cons (pv 0) (pa_cons (pv 5) (pa_cons (pe_slice sl_list (pv 2) (po_some (pv 6)) po_none) pa_nil)))) (pg_tup (by rfl) (pgs_cons (pg_name (i := 7) nd rfl (.inl rfl)) (pgs_cons (pg_name (i := 8) nd rfl (.inl rfl)) pgs_nil))))
        (pss_cons (ps_if (pt_cmpR op_ne (pe_callB (call_repr hG hu) (by rfl) (T.fr "repr" (by decide)) PyProof.Rows.boot_repr (pa_cons (pv 7) pa_nil)) (pe_callB (call_repr hG hu) (by rfl) (T.fr "repr" (by decide)) PyProof.Rows.boot_repr (pa_cons (pe_ifExp (pt_cmpR op_isN (pv 8) pe_non (nomark _)) (pe_tup (pa_cons (pv 4) (pa_cons (pv 6) pa_nil))) (pv 8)) pa_nil)) (nomark _)) (pss_one (ps_ret pe_bl)) pss_nil)
        (pss_cons (ps_if (PW.pt (pw_and (pt_cmpR op_notN (pv 8) pe_non (nomark _)) (pw_and (pt_cmpR (op_neD hu) (pv 8) (pe_lst (pa_cons pe_non pa_nil)) (nomark _)) (pw_and1 (pt_not (pt_val (pe_callB call_isi (by rfl) (T.fr "isinstance" (by decide)) PyProof.Rows.boot_isinstance (pa_cons (pe_ix ix_list (pv 8) pe_int (fun _ _ => rfl)) (pa_cons (pe_bltn (v := .ty "list") (by rfl) (T.fr "list" (by decide)) boot_T rfl) pa_nil)))))))))
            (pss_one (ps_set (i := 6) nd rfl (.inl rfl) (pe_op op_add (pv 6) pe_int))) pss_nil)
        (pss_one (ps_if (PW.pt (pw_or (pt_cmpR op_ne (pe_prop (E := E0) (pv 5) T.cl T.pr Gs (hr.mono (by decide)) bs .nil pass0 (by rfl)) (pv 6) (nomark _))
            (pw_or (pt_cmpR op_ne (pe_callB (Ow.call_lenO (E := E0) (mt T ("__len__", 2) (by decide)).at_ (mt T ("__len__", 2) (by decide)).fn Gl' (hr.mono (by decide)) bl pass0) (by rfl) (T.fr "len" (by decide)) PySem.boot_len (pa_cons (pv 5) pa_nil)) (pe_callB call_len_seq (by rfl) (T.fr "len" (by decide)) PySem.boot_len (pa_cons (pv 2) pa_nil)) (nomark _))
            (pw_or (pt_cmpR (op_neD hu) (pe_lc (own := [("_law_word", 9)]) (g := gName 9) (tt := tYes) (te := tVar 9) rfl nd (Ow.pi_own (k := 1) (pv 5) (mt T ("__iter__", 3) (by decide)).at_ (mt T ("__iter__", 3) (by decide)).fn (hr.mono (by decide))) (blkOk_by (N := scR_N) (sc := defScope sRt) (by decide +kernel))
                (fun _ _ _ _ _ => pg_name (i := 9) nd rfl (.inl rfl)) (fun _ _ _ _ _ => pts_nil) (fun _ _ _ _ _ => pv 9)) (pv 2) (nomark _))
            (pw_or1 (pt_cmpR op_ne (pe_callTy (Ow.call_boolO (E := E0) (mt T ("__bool__", 4) (by decide)).at_ (mt T ("__bool__", 4) (by decide)).fn Gb (hr.mono (by decide)) bb pass0) (by rfl) (T.fr "bool" (by decide)) boot_T (pa_cons (pv 5) pa_nil)) (pe_cmpR op_lt (pv 6) (pe_callB call_len_seq (by rfl) (T.fr "len" (by decide)) PySem.boot_len (pa_cons (pv 2) pa_nil)) (nomark _)) (nomark _)))))))
            (pss_one (ps_ret pe_bl)) pss_nil)))))))
    (pss_one (ps_ret pe_bl))))))), ?_⟩
  rfl
end
end K2

/-! text K2RtB -/
set_option Elab.async false
set_option linter.all false
set_option maxRecDepth 100000
set_option maxHeartbeats 400000
namespace K2
open PySem PySem.Spec PyProof.Rows L2 RV EV He EF EI Hd LamX Kw Gd
theorem join_sp : ∀ ts : List Str, (∀ t ∈ ts, t.length ≤ 50) → (Str.join " " ts).length ≤ 51 * ts.length
  | [], _ => Nat.le_of_eq rfl
  | [x], h => by
    have := h x List.mem_cons_self
    show x.length ≤ 51 * 1
    omega
  | x :: y :: r, h => by
    have h1 := h x List.mem_cons_self
    have h2 := join_sp (y :: r) fun t ht => h t (List.mem_cons_of_mem _ ht)
    have e : Str.join " " (x :: y :: r) = x ++ (" " : Str) ++ Str.join " " (y :: r) := rfl
    have e1 : ((" " : Str)).length = 1 := rfl
    rw [e, strLen_append, strLen_append, e1]
    simp only [List.length_cons] at h2 ⊢
    omega
theorem sum50 : ∀ ts : List Str, (∀ t ∈ ts, t.length ≤ 50) → (ts.map (fun x => x.length)).sum ≤ 50 * ts.length
  | [], _ => Nat.le_of_eq rfl
  | x :: r, h => by
    have h1 := h x List.mem_cons_self
    have h2 := sum50 r fun t ht => h t (List.mem_cons_of_mem _ ht)
    simp only [List.map_cons, List.sum_cons, List.length_cons]
    omega
/-- the words of the text that ys join to -/
def wsOf (ys : List Str) : List Str := if ys = [] then [""] else ys
theorem ws_split {ys : List Str} (W : ∀ x ∈ ys, x ∈ wordsL) : Txt.split (Txt.join " " ys) " " = wsOf ys := by
  unfold wsOf
  by_cases h : ys = []
  · rw [if_pos h, h]
    decide +kernel
  · rw [if_neg h]
    exact TL.split_join (y := " ") (s := 32) (S := []) rfl (by decide +kernel) h fun p hp => (word_ok (W p hp)).2.2.2.2.2.1
theorem ws_words {ys : List Str} (W : ∀ x ∈ ys, x ∈ wordsL) : ∀ x ∈ wsOf ys, x ∈ wordsL := by
  unfold wsOf
  by_cases h : ys = []
  · rw [if_pos h]
    intro x hx
    rw [List.mem_singleton.mp hx]
    decide +kernel
  · rw [if_neg h]
    exact W
theorem ws_len {ys : List Str} (h : ys.length ≤ 9) : (wsOf ys).length ≤ 9 := by
  unfold wsOf
  by_cases e : ys = []
  · rw [if_pos e]
    decide
  · rw [if_neg e]
    exact h
section
variable {K : PySem.W.Frag} {H : Hp} {pen ce : Addr} {cs : List Int} {b g : Int} {a1 a2 a3 a4 a5 a6 a7 a8 a9 : Option V} {Q : VK} {D : Ends}
theorem r1_read (N : Pen H pen ce cs b g) (hb : b ≤ 900)
    (k : ∀ L (ys : List Str) H' b' g', b' ≤ b + 12 → Pen H' pen ce cs b' g' → (∀ c o, c ≠ pen → H c = some o → H' c = some o) → H' L = some (.lst (ys.map V.str)) → ys.length ≤ 9 → (∀ y ∈ ys, y ∈ wordsL) → D.nx [some (.ref pen), a1, some (.ref L), a3, a4, a5, a6, a7, a8, a9] H') :
    tR1 D [some (.ref pen), a1, a2, a3, a4, a5, a6, a7, a8, a9] H := by
  refine asg_read ?_
  refine ⟨_, rfl, pen, ce, cs, b, g, 9, rfl, N, by omega, by decide, by decide, fun r b1 g1 H1 r0 r9 hb1 N1 k1 => ⟨r, rfl, by omega, by omega, fun L nL => ?_⟩⟩
  have e1 := same_new (o := .lst []) nL
  have lp : L ≠ pen := none_ne nL N1.pn
  have lc : L ≠ ce := none_ne nL N1.ce
  have penU : ∀ {H' : Hp} {b' g' : Int} {o : HO}, Pen H' pen ce cs b' g' → Pen (upd H' L o) pen ce cs b' g' := fun {H' b' g' o} P => ⟨by rw [upd_ne (Ne.symm lp)]; exact P.pn, by rw [upd_ne (Ne.symm lc)]; exact P.ce, P.b0, P.g0, P.ln⟩
  refine lc_range (fun i H' => ∃ (ys : List Str) (b' g' : Int), ys.length = i ∧ (∀ y ∈ ys, y ∈ wordsL) ∧ H' L = some (.lst (ys.map V.str)) ∧ b' ≤ b1 + i ∧ Pen H' pen ce cs b' g' ∧ ∀ c o, c ≠ pen → H1 c = some o → H' c = some o)
    ⟨[], b1, g1, rfl, (fun y hy => nomatch hy), upd_same, by omega, N1.same e1, fun c o _ e => e1 _ _ e⟩ ?_ ?_
  · rintro i H' hi ⟨ys, b', g', hl, hw, hL, hb', N', k'⟩
    refine ⟨rfl, yesB ⟨_, rfl, rfl, fun l H5 nl s5 hll => ⟨pen, ce, l, cs, b', g', _, rfl, N'.same s5, by omega, none_ne nl N'.pn, hll, wl.1, wl.2, fun z b2 g2 H6 mz hb2 N6 k6 => ?_⟩⟩⟩
    obtain ⟨x, hx, rfl⟩ := List.mem_map.mp mz
    refine ⟨ys.map V.str, k6 _ _ lp (s5 _ _ hL), ?_, ys ++ [x], b2, g2, by rw [List.length_append, hl]; rfl, ?_, ?_, by omega, penU N6, ?_⟩
    · rw [List.length_map, hl, sizeLine_eq]
      omega
    · intro y hy
      rcases List.mem_append.mp hy with h | h
      · exact hw y h
      · rw [List.mem_singleton.mp h]
        exact hx
    · rw [upd_same, List.map_append]
      rfl
    · intro c o hc e
      rw [upd_ne (Ne.symm (none_ne nL e))]
      exact k6 _ _ hc (s5 _ _ (k' c o hc e))
  · rintro H' ⟨ys, b', g', hl, hw, hL, hb', N', k'⟩
    exact k L ys H' b' g' (by omega) N' (fun c o hc e => k' c o hc (k1 c o hc e)) hL (by omega) hw
theorem r2_read {L : Addr} {ys : List Str} (N : Pen H pen ce cs b g) (hb : b ≤ 950) (hL : H L = some (.lst (ys.map V.str))) (hz : ys.length ≤ 9) (W : ∀ y ∈ ys, y ∈ wordsL)
    (k : ∀ ln H' b' g', (ln = 0 ∨ ln = 1 ∨ ln = 7) → b' ≤ b + 1 → Pen H' pen ce cs b' g' → (∀ c o, c ≠ pen → H c = some o → H' c = some o) → D.nx [some (.ref pen), a1, some (.ref L), some (.str (Txt.join " " ys)), some (.int ln), a5, a6, a7, a8, a9] H') :
    tR2 K D [some (.ref pen), a1, some (.ref L), a3, a4, a5, a6, a7, a8, a9] H := by
  have hs := sum50 ys fun t ht => (word_ok (W t ht)).1
  have e1 : ((" " : Str)).length = 1 := rfl
  refine ⟨⟨_, rfl⟩, _, rfl, " ", L, ys, rfl, rfl, .inl (SqL.of hL), by rw [e1]; omega, _, rfl, (by show 3 ≤ sizeLine; decide), fun l nl => ?_⟩
  have el := same_new (o := .lst [V.int 0, V.int 1, V.int 7]) nl
  refine ⟨pen, ce, l, cs, b, g, _, rfl, N.same el, by omega, none_ne nl N.pn, upd_same, by simp, by simp, fun x b1 g1 H1 mx hb1 N1 k1 => ?_⟩
  have hx : ∃ ln : Int, x = .int ln ∧ (ln = 0 ∨ ln = 1 ∨ ln = 7) := by
    simp only [List.mem_cons, List.not_mem_nil, or_false] at mx
    rcases mx with rfl | rfl | rfl
    · exact ⟨_, rfl, .inl rfl⟩
    · exact ⟨_, rfl, .inr (.inl rfl)⟩
    · exact ⟨_, rfl, .inr (.inr rfl)⟩
  obtain ⟨ln, rfl, hln⟩ := hx
  exact ⟨_, _, rfl, k ln H1 b1 g1 hln hb1 N1 fun c o hc e => k1 c o hc (el _ _ e)⟩
theorem new_same {x dx : Addr} {C : Addr} (nx : H x = none) (nd : H dx = none) : Same H (upd (upd H dx (.own x)) x (.ins C dx [])) := fun c o e => by
  rw [upd_ne (Ne.symm (none_ne nx e)), upd_ne (Ne.symm (none_ne nd e))]
  exact e
theorem init_sp {R : VK} {x dx : Addr} {txt : Str} {ln : Int} {ws : List Str} (E : XK) (nx : H x = none) (nd : H dx = none) (hz : txt.length ≤ 1000000) (es : Txt.split txt " " = ws) (hw : ws.length ≤ 1000)
    (k : ∀ tp H', Same H H' → WO K H' x dx tp ws ln 0 → R .non H') : spInit K [.ref x, .str txt, .int ln] (upd (upd H dx (.own x)) x (.ins (gW K) dx [])) R E := by
  refine ⟨x, dx, .str txt, ln, rfl, upd_same, .inr ⟨txt, rfl, hz, by rw [es]; exact hw, fun H' tp s2 O => ?_⟩⟩
  rw [es] at O
  exact k tp H' (fun c o e => s2 c o (Ne.symm (none_ne nx e)) (new_same nx nd c o e)) O
theorem r3_read {txt : Str} {ln : Int} {ws : List Str} (hl : ln = 0 ∨ ln = 1 ∨ ln = 7) (hz : txt.length ≤ 1000000) (es : Txt.split txt " " = ws) (hw : ws.length ≤ 1000)
    (k : ∀ p dx tp H', H p = none → Same H H' → WO K H' p dx tp ws ln 0 → D.nx [some (.ref pen), a1, a2, some (.str txt), some (.int ln), some (.ref p), a6, a7, a8, a9] H') :
    tR3 K D [some (.ref pen), a1, a2, some (.str txt), some (.int ln), a5, a6, a7, a8, a9] H := by
  refine asg_read ⟨_, rfl, ln, 0, rfl, rfl, _, rfl, ?_⟩
  by_cases h : 0 < ln
  · refine if_posB (decide_eq_true h) ⟨_, rfl, _, rfl, fun x dx nx nd ne => ?_⟩
    exact init_sp _ nx nd hz es hw fun tp H' s O => ⟨rfl, k x dx tp H' nx s O⟩
  · obtain rfl : ln = 0 := by omega
    refine if_negB (decide_eq_false h) ⟨_, rfl, rfl, rfl, fun x dx nx nd ne => ?_⟩
    exact init_sp _ nx nd hz es hw fun tp H' s O => ⟨rfl, k x dx tp H' nx s O⟩
theorem r4_read {txt : Str} {ws : List Str} (hz : txt.length ≤ 1000000) (es : Txt.split txt " " = ws)
    (k : ∀ S, H S = none → D.nx [some (.ref pen), a1, some (.ref S), some (.str txt), a4, a5, some (.int 0), a7, a8, a9] (upd H S (.lst (ws.map V.str)))) :
    tR4 D [some (.ref pen), a1, a2, some (.str txt), a4, a5, a6, a7, a8, a9] H := by
  refine ⟨_, rfl, ⟨_, rfl⟩, txt, " ", rfl, rfl, rfl, by rw [sizeLine_eq]; omega, fun S nS => ⟨_, _, rfl, ?_⟩⟩
  rw [es]
  exact k S nS
end
end K2

/-! text K2RtC -/
set_option Elab.async false
set_option linter.all false
set_option maxRecDepth 100000
set_option maxHeartbeats 400000
namespace K2
open PySem PySem.Spec PyProof.Rows L2 RV EV He EF EI Hd LamX Kw Gd
/-- a datum that repr may be asked of -/
def repOk (d : PyData) : Bool := d.showable && (decide (d.depth ≤ 20) && decide (RV.up d ≤ sizeLine))
theorem rep_of {H : Hp} {Q : VK} {a : Addr} {d : PyData} (D : Dat H (.ref a) d) (h : repOk d = true) (k : Q (.str d.shown) H) : rRepr [.ref a] H Q := by
  obtain ⟨h1, h⟩ := Bool.and_eq_true_iff.mp h
  obtain ⟨h2, h3⟩ := Bool.and_eq_true_iff.mp h
  exact ⟨a, d, rfl, D, h1, of_decide_eq_true h2, Nat.le_trans (up_ok d) (of_decide_eq_true h3), k⟩
def lns : List Int := [0, 1, 7]
theorem rep_pair : (lns.all fun a => (List.range 11).all fun t => repOk (.tuple [.int a, .int (t : Nat)])) = true := by decide +kernel
theorem rep_word : (wordsL.all fun x => repOk (.list [.str x])) = true := by decide +kernel
def numOk : V → Bool
  | .int n => repOk (.list [.int n])
  | _ => true
theorem rep_num : (wordsL.all fun x => bndsL.all fun b => numOk (resL x b.1 b.2)) = true := by decide +kernel
theorem rep_end : repOk (.list [.none]) = true := by decide +kernel
theorem rep_told : ∀ a b c : Bool, repOk (.list [.list [.bool a, .bool b, .bool c]]) = true := by decide +kernel
section
variable {K : PySem.W.Frag} {H : Hp} {pen ce p dx tp S : Addr} {cs : List Int} {b g ln : Int} {t : Nat} {txt : Str} {ws : List Str} {a1 a2 a3 a4 a5 a6 a7 a8 a9 : Option V} {Q : VK} {D : Ends}
theorem t1_read (O : WO K H p dx tp ws ln t) (W : ∀ x ∈ ws, x ∈ wordsL) (hS : H S = some (.lst (ws.map V.str))) (k : ∀ H', Same H H' → D.nx [some (.ref pen), a1, some (.ref S), a3, some (.int ln), some (.ref p), some (.int (t : Nat)), a7, a8, a9] H') :
    tT1 K D [some (.ref pen), a1, some (.ref S), a3, some (.int ln), some (.ref p), some (.int (t : Nat)), a7, a8, a9] H := by
  refine ⟨_, rfl, _, rfl, _, rfl, S, ws.map V.str, rfl, .inl (SqL.of hS), _, rfl, p, dx, tp, ws, ln, t, ?_, O, words_len W, fun H' s => ⟨_, rfl, if_negB rfl (k H' s)⟩⟩
  rw [List.length_map]
  rfl
theorem cut_drop (hle : t ≤ ws.length) : cutV (ws.map V.str) (some (t : Nat)) none = (ws.drop t).map V.str := by
  unfold cutV
  rw [HT.sIx_none, HT.sIx_nat, List.length_map, Nat.min_eq_left hle, List.map_drop]
  refine List.take_of_length_le ?_
  rw [List.length_drop, List.length_map]
  omega
theorem t2_read (N : Pen H pen ce cs b g) (hb : b ≤ 900) (O : WO K H p dx tp ws ln t) (W : ∀ x ∈ ws, x ∈ wordsL) (hS : H S = some (.lst (ws.map V.str))) (Tb : Tabs (TL K) H)
    (k : ∀ h dv H' b' g', b' ≤ b + 2 → Pen H' pen ce cs b' g' → (∀ c o, c ≠ p → c ≠ pen → (∀ ps, o ≠ .tbl ps) → H c = some o → H' c = some o) → Tabs (TL K) H' → Res K H' p dx tp ws ln t h dv →
      D.nx [some (.ref pen), a1, some (.ref S), a3, some (.int ln), some (.ref p), some (.int (t : Nat)), some (.ref h), some dv, a9] H') :
    tT2 K D [some (.ref pen), a1, some (.ref S), a3, some (.int ln), some (.ref p), some (.int (t : Nat)), a7, a8, a9] H := by
  refine ⟨_, rfl, _, rfl, _, rfl, _, rfl, _, rfl, S, _, rfl, SqL.of hS, fun l nl => ?_⟩
  rw [cut_drop O.le]
  have s := same_new (o := .lst ((ws.drop t).map V.str)) nl
  refine ⟨pen, ce, cs, b, g, p, dx, tp, ws, ln, t, l, rfl, N.same s, hb, none_ne nl N.pn, O.same s, W, upd_same, Tb.ext s, fun H' b' g' tr h dv hb' N' kp T' e res => ?_⟩
  refine ⟨tr, _, rfl, SqT.of e, rfl, _, _, rfl, _, _, rfl, rfl, ?_⟩
  exact k h dv H' b' g' hb' N' (fun c o h1 h2 hn e => kp c o h1 h2 hn (s _ _ e)) T' res
theorem t3_read {h : Addr} {dv : V} (hl : ln = 0 ∨ ln = 1 ∨ ln = 7) (ht : t ≤ 10) (R : Res K H p dx tp ws ln t h dv) (k : ∀ H', Same H H' → D.nx [some (.ref pen), a1, some (.ref S), a3, some (.int ln), some (.ref p), some (.int (t : Nat)), some (.ref h), some dv, a9] H') :
    tT3 D [some (.ref pen), a1, some (.ref S), a3, some (.int ln), some (.ref p), some (.int (t : Nat)), some (.ref h), some dv, a9] H := by
  have hp : repOk (.tuple [.int ln, .int (t : Nat)]) = true := List.all_eq_true.mp (List.all_eq_true.mp rep_pair ln (by rcases hl with rfl | rfl | rfl <;> decide)) t (List.mem_range.mpr (by omega))
  -- both are data
  have both : ∀ {a : Addr} {d : PyData}, dv = .ref a → Dat H (.ref h) d → Dat H (.ref a) d → repOk d = true → tT3 D [some (.ref pen), a1, some (.ref S), a3, some (.int ln), some (.ref p), some (.int (t : Nat)), some (.ref h), some dv, a9] H := by
    intro a d e D1 D2 ok
    subst e
    refine ⟨_, rfl, ?_⟩
    try unfold tNil
    show rRepr [V.ref h] H _
    refine rep_of D1 ok ⟨_, rfl, rfl, _, rfl, if_negB rfl ⟨_, rfl, ?_⟩⟩
    try unfold tNil
    show rRepr [V.ref a] H _
    refine rep_of D2 ok ⟨rfl, _, rfl, if_negB (by simp) ?_⟩
    exact k H fun _ _ e => e
  cases R with
  | no e O =>
    refine ⟨_, rfl, ?_⟩
    try unfold tNil
    show rRepr [V.ref h] H _
    refine rep_of (.tup e (.cons (.int ln) (.cons (.int t) .nil))) hp ⟨_, rfl, rfl, _, rfl, if_posB rfl ⟨_, rfl, _, rfl, (by show 2 ≤ sizeLine; decide), fun q nq => ?_⟩⟩
    try unfold tNil
    show rRepr [V.ref q] (upd H q (.tup [.int ln, .int (t : Nat)])) _
    refine rep_of (.tup upd_same (.cons (.int ln) (.cons (.int t) .nil))) hp ⟨rfl, _, rfl, if_negB (by simp) ?_⟩
    exact k _ (same_new nq)
  | word a x e1 n1 e2 n2 hx O => exact both rfl (.lst e1 n1 (.cons (.str x) .nil)) (.lst e2 n2 (.cons (.str x) .nil)) (List.all_eq_true.mp rep_word x hx)
  | num a x bb n e1 n1 e2 n2 hx hb e O =>
    have z := List.all_eq_true.mp (List.all_eq_true.mp rep_num x hx) bb hb
    rw [e] at z
    exact both rfl (.lst e1 n1 (.cons (.int n) .nil)) (.lst e2 n2 (.cons (.int n) .nil)) z
  | end_ a e1 n1 e2 n2 O => exact both rfl (.lst e1 n1 (.cons .non .nil)) (.lst e2 n2 (.cons .non .nil)) rep_end
  | told a u1 u2 b1 b2 b3 e1 n1 f1 m1 e2 n2 f2 m2 O => exact both rfl (.lst e1 n1 (.cons (.lst f1 m1 (.cons (.bl b1) (.cons (.bl b2) (.cons (.bl b3) .nil)))) .nil)) (.lst e2 n2 (.cons (.lst f2 m2 (.cons (.bl b1) (.cons (.bl b2) (.cons (.bl b3) .nil)))) .nil)) (rep_told b1 b2 b3)
end
end K2

/-! text K2RtD -/
set_option Elab.async false
set_option linter.all false
set_option maxRecDepth 100000
set_option maxHeartbeats 400000
namespace K2
open PySem PySem.Spec PyProof.Rows L2 RV EV He EF EI Hd LamX Kw Gd
theorem shaped_non : SeqAt.shaped (.list [.none]) = true := by decide +kernel
theorem shaped_num (n : Int) : SeqAt.shaped (.list [.int n]) = true := by simp [SeqAt.shaped, PyData.canLay0, PyData.canLayAll0, PyData.depth, PyData.depthAll]
theorem shaped_told : ∀ a b c : Bool, SeqAt.shaped (.list [.list [.bool a, .bool b, .bool c]]) = true := by decide +kernel
theorem shaped_wd {x : Str} (hx : x ∈ wordsL) : SeqAt.shaped (.list [.str x]) = true := shaped_w [x] fun y hy => by
  rw [List.mem_singleton.mp hy]
  exact (word_ok hx).2.2.2.2.2.2
section
variable {K : PySem.W.Frag} {H : Hp} {pen ce p dx tp S : Addr} {cs : List Int} {b g ln : Int} {t : Nat} {txt : Str} {ws : List Str} {a1 a2 a3 a4 a5 a6 a7 a8 a9 : Option V} {Q : VK} {D : Ends}
theorem t4_some {a : Addr} {v : V} {d : PyData} {ty : String} {isl : Bool} (ea : ∀ H', Same H H' → SqL K H' a [v]) (dp : ∀ H', Same H H' → Dp K H' v d) (sd : SeqAt.shaped (.list [d]) = true) (ev : PyData.eqv (.list [d]) (.list [.none]) = false)
    (hty : ∀ H', Same H H' → TyX K H' v (.type ty)) (hk : kitB ty "list" = some isl)
    (k : ∀ H', Same H H' → D.nx [some (.ref pen), a1, a2, a3, a4, a5, some (.int (if isl then (t : Nat) else (t + 1 : Nat))), a7, some (.ref a), a9] H') :
    tT4 K D [some (.ref pen), a1, a2, a3, a4, a5, some (.int (t : Nat)), a7, some (.ref a), a9] H := by
  refine ⟨_, rfl, rfl, _, rfl, if_posB rfl ⟨_, rfl, (by show 1 ≤ sizeLine; decide), fun q nq => ?_⟩⟩
  have s := same_new (o := .lst [V.non]) nq
  refine ⟨.list [d], .list [.none], .lst (ea _ s) (.cons (dp _ s) .nil), .lst (SqL.of upd_same) (.cons .non .nil), sd, shaped_non, _, rfl, if_posB (by rw [ev]; rfl) ?_⟩
  refine ⟨_, rfl, a, _, 0, v, rfl, rfl, ea _ s, rfl, v, .ty "list", _, _, isl, rfl, .ty _, hty _ s, kit_ty hk, _, rfl, ?_⟩
  cases isl with
  | true => exact if_negB rfl (k _ s)
  | false => exact if_posB rfl ⟨_, rfl, (t : Nat), 1, rfl, rfl, k _ s⟩
theorem t4_read {h : Addr} {dv : V} (R : Res K H p dx tp ws ln t h dv)
    (k : ∀ (t' : Nat) H', t' ≤ t + 1 → Same H H' → WO K H' p dx tp ws ln t' → D.nx [some (.ref pen), a1, a2, a3, a4, a5, some (.int (t' : Nat)), a7, some dv, a9] H') :
    tT4 K D [some (.ref pen), a1, a2, a3, a4, a5, some (.int (t : Nat)), a7, some dv, a9] H := by
  cases R with
  | no e O => exact ⟨_, rfl, rfl, _, rfl, if_negB rfl (if_negB rfl (k t H (by omega) (fun _ _ e => e) O))⟩
  | word a x e1 n1 e2 n2 hx O =>
    exact t4_some (isl := false) (fun H' s => SqL.of (s _ _ e2)) (fun H' s => .str x) (shaped_wd hx) rfl (fun H' s => .base (.str x)) (by decide +kernel) fun H' s => k (t + 1) H' (by omega) s (O.same s)
  | num a x bb n e1 n1 e2 n2 hx hb e O =>
    exact t4_some (isl := false) (fun H' s => SqL.of (s _ _ e2)) (fun H' s => .int n) (shaped_num n) rfl (fun H' s => .base (.int n)) (by decide +kernel) fun H' s => k (t + 1) H' (by omega) s (O.same s)
  | end_ a e1 n1 e2 n2 O =>
    refine ⟨_, rfl, rfl, _, rfl, if_posB rfl ⟨_, rfl, (by show 1 ≤ sizeLine; decide), fun q nq => ?_⟩⟩
    have s := same_new (o := .lst [V.non]) nq
    exact ⟨.list [.none], .list [.none], .lst (SqL.of (s _ _ e2)) (.cons .non .nil), .lst (SqL.of upd_same) (.cons .non .nil), shaped_non, shaped_non, _, rfl, if_negB rfl (if_negB rfl (k t _ (by omega) s (O.same s)))⟩
  | told a u1 u2 b1 b2 b3 e1 n1 f1 m1 e2 n2 f2 m2 O =>
    exact t4_some (isl := true) (fun H' s => SqL.of (s _ _ e2)) (fun H' s => .lst (SqL.of (s _ _ f2)) (.cons (.bl b1) (.cons (.bl b2) (.cons (.bl b3) .nil)))) (shaped_told b1 b2 b3) rfl (fun H' s => .base (.lst (s _ _ f2))) (by decide +kernel) fun H' s => k t H' (by omega) s (O.same s)
theorem walk_read {wi : TI} {σ : L2.St} (hwi : ∀ σ H R, σ[5]? = some (some (.ref p)) → WO K H p dx tp ws ln t → R (Itt K tp) H → wi σ H R) (h5 : σ[5]? = some (some (.ref p))) (hw : ∀ v, wipe ((wipe σ [9]).set 9 v) [9] = wipe σ [9]) (hi : ∀ v, ((wipe σ [9]).set 9 (some v))[9]? = some (some v))
    (O : WO K H p dx tp ws ln t) (k : ∀ r H', Same H H' → H' r = some (.lst (ws.map V.str)) → Q (.ref r) H') : tLc wi (gName 9) tYes (tVar 9) [9] σ H Q := by
  refine hwi _ _ _ h5 O fun D nD => ?_
  have e1 := same_new (o := .lst []) nD
  refine lc_tup (K := K) (a := tp) (xs := ws.map V.str) (fun i H' => Same H H' ∧ H' D = some (.lst ((ws.map V.str).take i))) ⟨e1, upd_same⟩ (fun i H' _ z => SqT.of (z.1 _ _ O.ps)) ?_ ?_
  · rintro i x H' hx ⟨s, hD⟩
    refine ⟨hw _, yesB ⟨x, hi x, _, hD, ?_, ?_, ?_⟩⟩
    · have := O.lz
      rw [List.length_take, List.length_map, sizeLine_eq]
      omega
    · intro c o e
      rw [upd_ne (Ne.symm (none_ne nD e))]
      exact s c o e
    · rw [upd_same]
      rw [List.take_succ, hx]
      rfl
  · rintro H' ⟨s, hD⟩
    rw [List.take_length] at hD
    exact k D H' s hD
theorem lay_w (ss : List Str) (h : ∀ x ∈ ss, PyData.strOk x = true) : (PyData.list (ss.map PyData.str)).canLay0 = true := by
  simp only [PyData.canLay0, canLay_w ss h]
theorem t5_read {wi : TI} (hwi : ∀ (t : Nat) σ H R, σ[5]? = some (some (.ref p)) → WO K H p dx tp ws ln t → R (Itt K tp) H → wi σ H R) (O : WO K H p dx tp ws ln t) (W : ∀ x ∈ ws, x ∈ wordsL) (hS : H S = some (.lst (ws.map V.str)))
    (k : ∀ H', Same H H' → D.nx [some (.ref pen), a1, some (.ref S), a3, a4, some (.ref p), some (.int (t : Nat)), a7, a8, a9] H') :
    tT5 K wi D [some (.ref pen), a1, some (.ref S), a3, a4, some (.ref p), some (.int (t : Nat)), a7, a8, a9] H := by
  have lz := O.lz
  refine ⟨_, rfl, p, dx, _, rfl, O.ob, p, dx, tp, ws, ln, t, rfl, O, _, rfl, rfl, _, rfl, if_negB (by simp) ?_⟩
  refine ⟨_, rfl, p, dx, _, rfl, O.ob, p, dx, tp, ws, ln, t, rfl, O, _, rfl, by omega, by omega, _, rfl, S, ws.map V.str, rfl, .inl (SqL.of hS), rfl, _, rfl, if_negB (by rw [List.length_map]; simp) ?_⟩
  have st := walk_read (K := K) (ws := ws) (wi := wi) (σ := [some (.ref pen), a1, some (.ref S), a3, a4, some (.ref p), some (.int (t : Nat)), a7, a8, a9]) (Q := fun x H1 => tVar 2 [some (.ref pen), a1, some (.ref S), a3, a4, some (.ref p), some (.int (t : Nat)), a7, a8, a9] H1 fun y H2 => rNeD K x y H2 fun x H' => ∃ k, x = .bl k ∧ (if k = true then (tRet (tC (V.bl false))) D [some (.ref pen), a1, some (.ref S), a3, a4, some (.ref p), some (.int (t : Nat)), a7, a8, a9] H' else (tTest (tOp rNe (tCB (Ow.rBoolO (gW K) (spBool K) E0) (tCons (tVar 5) tNil)) (tOp (rI0 fun i j => V.bl (decide (i < j))) (tVar 6) (tCB (rLenT K) (tCons (tVar 2) tNil))))) [some (.ref pen), a1, some (.ref S), a3, a4, some (.ref p), some (.int (t : Nat)), a7, a8, a9] H' fun b H1 => if b = true then (tRet (tC (V.bl false))) D [some (.ref pen), a1, some (.ref S), a3, a4, some (.ref p), some (.int (t : Nat)), a7, a8, a9] H1 else tNext D [some (.ref pen), a1, some (.ref S), a3, a4, some (.ref p), some (.int (t : Nat)), a7, a8, a9] H1)) (hwi t) rfl (fun _ => rfl) (fun _ => rfl) O fun r H1 s1 hr => by
    refine ⟨_, rfl, .list (ws.map PyData.str), .list (ws.map PyData.str), .lst (SqL.of hr) (dp_w ws), .lst (SqL.of (s1 _ _ hS)) (dp_w ws), shaped_w _ (words_str W), shaped_w _ (words_str W), _, rfl, if_negB (by rw [SeqAt.eqv_refl _ (lay_w ws (words_str W))]; rfl) ?_⟩
    have O1 := O.same s1
    refine ⟨_, rfl, p, dx, _, rfl, O1.ob, p, dx, tp, ws, ln, t, rfl, O1, _, rfl, _, rfl, _, rfl, S, ws.map V.str, rfl, .inl (SqL.of (s1 _ _ hS)), _, _, rfl, rfl, rfl, _, rfl, if_negB ?_ (k _ s1)⟩
    rw [List.length_map]
    have e : decide (t < ws.length) = decide ((t : Int) < (ws.length : Nat)) := decide_eq_decide.mpr (by omega)
    rw [e]
    simp
  exact st
end
end K2

/-! text K2RtE -/
set_option Elab.async false
set_option linter.all false
set_option maxRecDepth 100000
set_option maxHeartbeats 400000
namespace K2
open PySem PySem.Spec PyProof.Rows L2 RV EV He EF EI Hd LamX Kw Gd
section
variable {K : PySem.W.Frag} {H : Hp} {pen ce p dx tp S : Addr} {cs : List Int} {b g ln : Int} {t : Nat} {txt : Str} {ws : List Str} {a1 a2 a3 a4 a5 a6 a7 a8 a9 : Option V} {Q : VK} {D : Ends}
/-- all but pen, p and the tables stays -/
def Kpp (H H' : Hp) (p pen : Addr) : Prop := ∀ c o, c ≠ p → c ≠ pen → (∀ ps, o ≠ .tbl ps) → H c = some o → H' c = some o
theorem turnR_read {wi : TI} (hwi : ∀ (t : Nat) σ H R, σ[5]? = some (some (.ref p)) → WO K H p dx tp ws ln t → R (Itt K tp) H → wi σ H R) (N : Pen H pen ce cs b g) (hb : b ≤ 900) (O : WO K H p dx tp ws ln t) (W : ∀ x ∈ ws, x ∈ wordsL) (h9 : ws.length ≤ 9) (sp : S ≠ pen)
    (hS : H S = some (.lst (ws.map V.str))) (Tb : Tabs (TL K) H) (hl : ln = 0 ∨ ln = 1 ∨ ln = 7)
    (k : ∀ (t' : Nat) H' b' g' x7 x8, b' ≤ b + 2 → Pen H' pen ce cs b' g' → Kpp H H' p pen → WO K H' p dx tp ws ln t' → H' S = some (.lst (ws.map V.str)) → Tabs (TL K) H' → D.nx [some (.ref pen), a1, some (.ref S), a3, some (.int ln), some (.ref p), some (.int (t' : Nat)), x7, x8, a9] H') :
    tTurnR K wi D [some (.ref pen), a1, some (.ref S), a3, some (.int ln), some (.ref p), some (.int (t : Nat)), a7, a8, a9] H := by
  have le := O.le
  refine seq_read (t1_read O W hS fun H1 s1 => ?_)
  refine seq_read (t2_read (N.same s1) hb (O.same s1) W (s1 _ _ hS) (Tb.ext s1) fun h dv H2 b2 g2 hb2 N2 k2 T2 R => ?_)
  have hS2 : H2 S = some (.lst (ws.map V.str)) := k2 S _ (ne_of hS O.ob (fun z => nomatch z)) sp (fun _ z => nomatch z) (s1 _ _ hS)
  refine seq_read (t3_read hl (by omega) R fun H3 s3 => ?_)
  have R3 : Res K H3 p dx tp ws ln t h dv := by
    cases R with
    | no e O => exact .no (s3 _ _ e) (O.same s3)
    | word a x e1 n1 e2 n2 hx O => exact .word a x (s3 _ _ e1) n1 (s3 _ _ e2) n2 hx (O.same s3)
    | num a x bb n e1 n1 e2 n2 hx hb e O => exact .num a x bb n (s3 _ _ e1) n1 (s3 _ _ e2) n2 hx hb e (O.same s3)
    | end_ a e1 n1 e2 n2 O => exact .end_ a (s3 _ _ e1) n1 (s3 _ _ e2) n2 (O.same s3)
    | told a u1 u2 b1 b2 b3 e1 n1 f1 m1 e2 n2 f2 m2 O => exact .told a u1 u2 b1 b2 b3 (s3 _ _ e1) n1 (s3 _ _ f1) m1 (s3 _ _ e2) n2 (s3 _ _ f2) m2 (O.same s3)
  refine seq_read (t4_read R3 fun t' H4 ht s4 O4 => ?_)
  have s34 := s3.trans s4
  refine t5_read hwi O4 W (s34 _ _ hS2) fun H5 s5 => ?_
  have s35 := s34.trans s5
  exact k t' H5 b2 g2 (some (.ref h)) (some dv) hb2 (N2.same s35) (fun c o h1 h2 hn e => s35 _ _ (k2 c o h1 h2 hn (s1 _ _ e))) (O4.same s5) (s35 _ _ hS2) (T2.ext s35)
theorem loop_read {wi : TI} (hwi : ∀ (t : Nat) σ H R, σ[5]? = some (some (.ref p)) → WO K H p dx tp ws ln t → R (Itt K tp) H → wi σ H R) (N : Pen H pen ce cs b g) (hb : b ≤ 850) (O : WO K H p dx tp ws ln 0) (W : ∀ x ∈ ws, x ∈ wordsL) (h9 : ws.length ≤ 9) (sp : S ≠ pen)
    (hS : H S = some (.lst (ws.map V.str))) (Tb : Tabs (TL K) H) (hl : ln = 0 ∨ ln = 1 ∨ ln = 7)
    (k : ∀ σ H' b' g', b' ≤ b + 24 → Pen H' pen ce cs b' g' → Kpp H H' p pen → Tabs (TL K) H' → D.nx σ H') :
    tFor (iRng1 (tCons (tC (V.int 12)) tNil)) (gName 1) (tTurnR K wi) D [some (.ref pen), a1, some (.ref S), a3, some (.int ln), some (.ref p), some (.int 0), a7, a8, a9] H := by
  refine ⟨12, rfl, by decide, by decide, ?_⟩
  refine for_range (lo := 0) (n := 12) (g := gName 1) (tb := tTurnR K wi) (D := D) (fun i σ H' => ∃ (a1 a7 a8 : Option V) (t : Nat) (b' g' : Int), σ = [some (.ref pen), a1, some (.ref S), a3, some (.int ln), some (.ref p), some (.int (t : Nat)), a7, a8, a9] ∧ b' ≤ b + 2 * i ∧ Pen H' pen ce cs b' g' ∧ Kpp H H' p pen ∧ WO K H' p dx tp ws ln t ∧ H' S = some (.lst (ws.map V.str)) ∧ Tabs (TL K) H')
    ⟨a1, a7, a8, 0, b, g, rfl, by omega, N, fun c o _ _ _ e => e, O, hS, Tb⟩ ?_ ?_
  · rintro i σ H' hi ⟨c1, c7, c8, t, b', g', rfl, hb', N', k', O', hS', T'⟩
    exact turnR_read hwi N' (by omega) O' W h9 sp hS' T' hl fun t' H2 b2 g2 x7 x8 hb2 N2 k2 O2 hS2 T2 => ⟨_, x7, x8, t', b2, g2, rfl, by omega, N2, fun c o h1 h2 hn e => k2 c o h1 h2 hn (k' c o h1 h2 hn e), O2, hS2, T2⟩
  · rintro σ H' ⟨c1, c7, c8, t, b', g', rfl, hb', N', k', O', hS', T'⟩
    exact k _ H' b' g' (by omega) N' k' T'
def spRt (K : PySem.W.Frag) : Sp := fun vs H Q _ => ∃ (pen ce : Addr) (cs : List Int) (b g : Int), vs = [.ref pen] ∧ Pen H pen ce cs b g ∧ b ≤ 800 ∧ Tabs (TL K) H ∧
  ∀ (H' : Hp) (b' g' : Int), b' ≤ b + 40 → Pen H' pen ce cs b' g' → (∀ c o, c ≠ pen → (∀ ps, o ≠ .tbl ps) → H c = some o → H' c = some o) → Tabs (TL K) H' → Q (.bl true) H'
theorem read_rt {wi : TI} (hwi : ∀ (p dx tp : Addr) (ws : List Str) (ln : Int) (t : Nat) (σ : L2.St) (H : Hp) (R : It → Hp → Prop), σ[5]? = some (some (.ref p)) → WO K H p dx tp ws ln t → R (Itt K tp) H → wi σ H R) {E : XK} {vs : List V} (h : spRt K vs H Q E) : tRt K wi { nx := fun _ H' => Q .non H', rt := Q } (L2.start scR_N vs) H := by
  obtain ⟨pen, ce, cs, b, g, rfl, N, hb, Tb, k⟩ := h
  have e : L2.start scR_N [.ref pen] = [some (.ref pen), none, none, none, none, none, none, none, none, none] := rfl
  rw [e]
  unfold tRt
  refine seq_read (r1_read N (by omega) fun L ys H1 b1 g1 hb1 N1 k1 hL h9 hw => ?_)
  refine seq_read (r2_read N1 (by omega) hL h9 hw fun ln H2 b2 g2 hl hb2 N2 k2 => ?_)
  have hz : (Txt.join " " ys).length ≤ 1000000 := by
    rw [TL.join_eq]
    have := join_sp ys fun t ht => (word_ok (hw t ht)).1
    omega
  have es := ws_split hw
  have w9 := ws_len h9
  refine seq_read (r3_read hl hz es (by omega) fun p dx tp H3 np s3 O => ?_)
  refine seq_read (r4_read hz es fun S nS => ?_)
  have s4 := same_new (o := .lst ((wsOf ys).map V.str)) nS
  have keep : ∀ c o, c ≠ pen → H c = some o → H3 c = some o := fun c o hc e => s3 _ _ (k2 _ _ hc (k1 _ _ hc e))
  have T4 : Tabs (TL K) (upd H3 S (.lst ((wsOf ys).map V.str))) := (tabsL Tb N.pn keep).ext s4
  have N3 := N2.same s3
  have st := loop_read (K := K) (H := upd H3 S (.lst ((wsOf ys).map V.str))) (wi := wi) (p := p) (dx := dx) (tp := tp) (ws := wsOf ys) (ln := ln) (a1 := none) (a3 := some (.str (Txt.join " " ys))) (a7 := none) (a8 := none) (a9 := none) (D := { nx := tRet (tC (V.bl true)) { nx := fun _ H' => Q .non H', rt := Q }, rt := Q })
    (hwi p dx tp (wsOf ys) ln) (N3.same s4) (by omega) (O.same s4) (ws_words hw) w9 (none_ne nS N3.pn) upd_same T4 hl fun σ H' b' g' hb' N' k' T' => k H' b' g' (by omega) N' (fun c o hc hn e => ?_) T'
  · exact seq_read st
  · have z := k2 _ _ hc (k1 _ _ hc e)
    exact k' c o (Ne.symm (none_ne np z)) hc hn (s4 _ _ (s3 _ _ z))
end
section
variable {P : Program} {w : World} {K : PySem.W.Frag} {mg : Str → Option Value} {base : Heap}
theorem ok_rt (T : KF P w K mg base) (TB : TabB base mg (cC K).1 (cC K).2) : ∃ fd, FnG P w K mg base CX0 10 (ga K "_law_right") fd ["_law_pen_here"] (spRt K) ∧ L2.Binds K fd ["_law_pen_here"] [] ∧ PySem.W.keepIn K (.ref (ga K "_law_right")) = true ∧ mg "_law_right" = some (.ref (ga K "_law_right")) := by
  obtain ⟨fd, F, g⟩ := T.tops ("_law_right", 26) (by decide)
  have b : L2.Binds K fd ["_law_pen_here"] [] := FunD.bindsN F fun _ _ _ _ _ _ us hl => match us, hl with | [_], _ => rfl
  refine ⟨fd, Gd.ofD F scR (fun vs H Q E h => ?_) (fun cdv A outer s H vs Q E hG hr h => ?_), b, F.kp, g⟩
  · obtain ⟨pen, ce, cs, b, g, rfl, _⟩ := h
    rfl
  · obtain ⟨t, ht, rfl⟩ := code_rt (E := E) T TB hG hr
    exact ⟨_, ht, read_rt (fun p dx tp ws ln t σ H R h5 O k => ⟨_, h5, p, dx, _, tp, _, rfl, O.ob, SqT.of O.ps, gives_iter T O, k⟩) h⟩
end
end K2

/-! text K2Law -/
set_option Elab.async false
set_option linter.all false
set_option maxRecDepth 100000
set_option maxHeartbeats 1000000
namespace Gd
open PySem PySem.Spec PyProof.Rows L2
section
variable {CX : CXT} {P : Program} {w : World} {K : PySem.W.Frag} {mg : Str → Option Value} {base : Heap} {x qual : Str} {pm0 : Arguments} {body : List Stmt} {scope : Scope} {f : Addr} {N ps : List Str} {k : Nat} {sp : Sp} {oc : Value} {od : Option Addr} {dV kV doc pm cdv ct : Value} {an : Option Addr} {osl : Array (Option Value)}
/-- the same of a def whose code object is known -/
theorem ofK (lk : K.lookup f = some ⟨oc, od, .func (PySem.W.fnOf x qual pm0 body scope dV kV doc pm an cdv ct), osl⟩) (hcd : PySem.W.codeIn K cdv qual = true) (S : FnScope N ps scope) (len : ∀ vs H Q E, sp vs H Q E → vs.length = ps.length)
    (hbody : ∀ (B : Around) (out : List Env) (t : Shared) (H : Hp) (vs : List V) (Q : VK) (E : XK), B.guards = some [] → Room k (B.deeper (envOfC qual scope t.heap.objs.size f cdv)) → sp vs H Q E →
      ∃ r, PSs (cxOf CX P w K mg base N qual scope f cdv B out t H E) body r ∧ r { nx := fun _ H' => Q .non H', rt := Q } (start N vs) H) : FnG P w K mg base CX (k + 1) f (PySem.W.fnOf x qual pm0 body scope dV kV doc pm an cdv ct) ps sp := by
  refine ⟨len, fun B out t H as us vs Q E hG hR e0 hb r hsp => ?_⟩
  have KX : K.In t.heap := e0.mod.kin.keeps fun b o e => (e0.bs b o e).1
  have lim : t.heap.NoLimit := e0.mod.nolimit.keeps fun b o e => (e0.bs b o e).1
  have hkd : ∀ q ∈ ps.zip us, scope.names.lookup q.1 = some .local ∨ (scope.names.lookup q.1 = some .cell ∧ ((cellsFrom (t.heap.objs.size + 1) scope.names []).lookup q.1).isSome = true) := fun ⟨n, v⟩ hq => by
    rcases S.par n (List.of_mem_zip hq).1 with i | i
    · exact .inl i
    · exact .inr ⟨i, PySem.W.cellsFrom_some _ _ _ (.inl i)⟩
  refine codeAny_call_function hR.depth (KX _ _ lk) rfl S.co S.gen rfl (PySem.W.codeRec_of KX hcd) (hb _ _ _ _ ?_)
  refine wpAny_newFunctionEnv_cells S.kind hkd fun ev he t1 X => ?_
  subst he
  refine ⟨lim.keeps X.toInCall.keep, codeAny_func ?_⟩
  obtain ⟨r0, h0, hq⟩ := hbody B out t H vs Q E hG (hR.deeper _) hsp
  refine wpAny_mono (h0.run [] t1 (start N vs) H _ (inv_start S hR.hd e0 (len _ _ _ _ hsp) r X) hq) (fun fl t2 hs => ?_) fun e t2 hs => hs
  cases fl with
  | ret u => exact let ⟨v, _, H', J, rv, q⟩ := hs; ⟨v, H', J.os, J.bare, J.base, J.hok, rv, q⟩
  | next => exact let ⟨_, H', J, q⟩ := hs; ⟨V.non, H', J.os, J.bare, J.base, J.hok, (rfl : Value.none = Value.none), q⟩
  | brk => exact let ⟨_, _, _, q⟩ := hs; False.elim q
  | cont => exact let ⟨_, _, _, q⟩ := hs; False.elim q
end
end Gd
namespace K2
open PySem PySem.Spec PyProof.Rows L2 RV EV He EF EI Hd LamX Kw Gd
/-! law (26). -/
abbrev sLw : Stmt := top 27
abbrev scW_N : List Str := ["_law_script", "_law_pen_here", "_law_turn", "_law_word", "_law_long", "_law_line", "_law_odd", "_law_words"]
theorem scW : FnScope scW_N ["_law_script"] (defScope sLw) := ⟨rfl, rfl, rfl, by decide +kernel, rfl, by decide +kernel, by decide +kernel⟩
theorem call_repr_non {X : Cx} : CallR X (.builtin "repr") (fun xs H Q => xs = [.non] ∧ Q (.str "None") H) := by
  intro pins s σ H xs us Q I r h
  obtain ⟨rfl, q⟩ := h
  obtain ⟨u, rfl, t⟩ := vals1 r
  obtain rfl : u = Value.none := t
  exact PySem.P.repr_of_none ⟨.str _, H, I.tok _, ⟨_, rfl⟩, q⟩
abbrev rRepV : List V → Hp → VK → Prop := fun xs H Q => (∃ i : Int, xs = [.int i] ∧ i.natAbs.log2 < 1920 ∧ Q (.str (toString i)) H) ∨ (xs = [.non] ∧ Q (.str "None") H)
theorem call_repV {X : Cx} : CallR X (.builtin "repr") rRepV := SkE.call_repr_int.or call_repr_non
abbrev rCatS : R2 := fun x y H Q => ∃ i j, x = V.str i ∧ y = V.str j ∧ i.length + j.length ≤ sizeLine ∧ Q (V.str (i ++ j)) H
abbrev tNeg39 : TE := tUn (rU fun i => V.int (-i)) (tOp (rI CPow fun i j => V.int (i ^ j.toNat)) (tC (V.int 10)) (tC (V.int 39)))
abbrev tPow (n : Int) : TE := tOp (rI CPow fun i j => V.int (i ^ j.toNat)) (tC (V.int 10)) (tC (V.int n))
abbrev tNo : TS := tRet (tC (V.bl false))
def tA1 (K : PySem.W.Frag) : TS := tIfS (tNot (tB (tCall (spRt K) [] E0 (tCons (tVar 1) tNil)))) tNo tNext
def tA2 (K : PySem.W.Frag) : TS := tAsg (tTup (tCons (tCall spPick [] E0 (tCons (tVar 1) (tCons (tLst (tCons (tC V.non) (tCons (tC (V.int 0)) (tCons (tC (V.bl true)) (tCons (tLst (tCons (tC (V.str "f")) tNil)) (tCons (tTup (tCons (tC (V.str "f")) tNil)) (tCons tDNewK tNil))))))) tNil))) (tCons (tCall spDraw [] E0 (tCons (tVar 1) (tCons (tC (V.int 9)) tNil))) tNil)))
  (gTup K 2 (gCons (gName 6) (gCons (gName 5) gNil)))
def tA3 (K : PySem.W.Frag) : TS := tIfS (tOr (tTest (tOp (rNeD K) (tHd K fun E' => tMake (gW K) (spInit K) [] E' (tCons (tVar 6) (tCons (tVar 5) tNil))) (tTup (tCons (tVar 5) (tCons (tC (V.int 0)) tNil)))))
  (tTest (tOp rNotNo (tCall (spNum K) [] E0 (tCons (tVar 6) (tCons (tUn (rU fun i => V.int (-i)) (tC (V.int 9))) (tCons (tC (V.int 9)) tNil)))) (tC V.non)))) tNo tNext
def tA4 : TS := tAsg (tCall spPick [] E0 (tCons (tVar 1) (tCons (tCall spTexts [] E0 tNil) tNil))) (gName 3)
def tA5 (K : PySem.W.Frag) : TS := tIfS (tOr (tTest (tOp rNe (tCB rRepV (tCons (tCall (spNum K) [] E0 (tCons (tVar 3) (tCons (tUn (rU fun i => V.int (-i)) (tC (V.int 40))) (tCons (tPow 31) tNil)))) tNil)) (tCB rRepV (tCons (tCall (spLNum K) [] E0 (tCons (tVar 3) (tCons (tUn (rU fun i => V.int (-i)) (tC (V.int 40))) (tCons (tPow 31) tNil)))) tNil))))
  (tNot (tB (tCall spChk [] E0 (tCons (tVar 1) tNil))))) tNo tNext
def tAll (K : PySem.W.Frag) : TS := tSeq (tA1 K) (tSeq (tA2 K) (tSeq (tA3 K) (tSeq tA4 (tA5 K))))
def tLongs : TE := tLst (tCons (tOp rMulS (tC (V.str "9")) (tC (V.int 5000))) (tCons (tOp rCatS (tC (V.str "-")) (tOp rMulS (tC (V.str "9")) (tC (V.int 5000)))) (tCons (tOp rMulS (tC (V.str "0")) (tC (V.int 5000))) tNil)))
def tC1 (K : PySem.W.Frag) : TS := tAsg (tMake (gW K) (spInit K) [] E0 (tCons (tOp rCatS (tC (V.str "to ")) (tVar 4)) (tCons (tC (V.int 3)) tNil))) (gName 7)
def tC2 (K : PySem.W.Frag) : TS := tIfS (tOr (tTest (tOp rNe (tMethR (gW K) "take" (spStar (spTake0 K)) E0 (tVar 7) (tCons (tC (V.str "to")) tNil)) (tC (V.str "to"))))
  (tTest (tOp (rNeD K) (tHd K fun E' => tMeth (gW K) "take_number" (spTNum K) [] E' (tVar 7) (tCons tNeg39 (tCons (tPow 39) tNil))) (tTup (tCons (tC (V.int 3)) (tCons (tC (V.int 1)) tNil)))))) tNo tNext
def tC3 (K : PySem.W.Frag) : TS := tIfS (tOr (tTest (tOp rNe (tProp (gW K) (spSpot K) [] E0 (tVar 7)) (tC (V.int 1)))) (tOr (tTest (tOp rNotNo (tCall (spNum K) [] E0 (tCons (tVar 4) (tCons tNeg39 (tCons (tPow 39) tNil)))) (tC V.non)))
  (tTest (tOp rNe (tMethR (gW K) "take" (spStar (spTake0 K)) E0 (tVar 7) tNil) (tVar 4))))) tNo tNext
def tLast (K : PySem.W.Frag) : TS := tRet (tAndV (tOp rEq (tMethR (gW K) "take" (spStar (spTake0 K)) E0 (tMake (gW K) (spInit K) [V.int 0] E0 (tCons (tC (V.str "")) tNil)) tNil) (tC (V.str "")))
  (tOp rEq (tCallKw (spNum K) [0, 1, 2] 3 E0 (tCons (tC (V.str "12")) (tCons (tC (V.int 12)) (tCons (tC (V.int 12)) tNil)))) (tC (V.int 12))))
def tLaw (K : PySem.W.Frag) : TS := tSeq (tAsg (tCall (spPen K) [] E0 (tCons (tVar 0) tNil)) (gName 1)) (tSeq (tFor (iRng1 (tCons (tC (V.int 5)) tNil)) (gName 2) (tAll K)) (tSeq (tFor (iList K tLongs) (gName 4) (tSeq (tC1 K) (tSeq (tC2 K) (tC3 K)))) (tLast K)))
section
variable {P : Program} {w : World} {K : PySem.W.Frag} {mg : Str → Option Value} {base : Heap}
structure NN (P : Program) (w : World) (K : PySem.W.Frag) (mg : Str → Option Value) (base : Heap) : Prop where
  nu : ∃ fd, FnOk P w K mg base CX0 2 (ga K "number_of") fd ["word", "least", "most"] (spNum K) ∧ L2.Binds K fd ["word", "least", "most"] [] ∧ PySem.W.keepIn K (.ref (ga K "number_of")) = true ∧ mg "number_of" = some (.ref (ga K "number_of")) ∧
    ∀ (s : Shared) (ws : List Value), ws.length = (["word", "least", "most"] : List Str).length → BindsTo s fd ⟨[], (["word", "least", "most"] : List Str).zip ws⟩ ((["word", "least", "most"] : List Str).zip (sel [0, 1, 2] ws))
  pn : ∃ fd, FnOk P w K mg base CX0 1 (ga K "_law_pen") fd ["_law_script"] (spPen K) ∧ L2.Binds K fd ["_law_script"] [] ∧ PySem.W.keepIn K (.ref (ga K "_law_pen")) = true ∧ mg "_law_pen" = some (.ref (ga K "_law_pen"))
theorem nn (T : KF P w K mg base) : NN P w K mg base := by
  obtain ⟨fN, FN, gN⟩ := T.tops ("number_of", 10) (by decide)
  obtain ⟨fP, FP, gP⟩ := T.tops ("is_plain_number", 11) (by decide)
  obtain ⟨f1, F1, g1⟩ := T.tops ("_law_pen", 14) (by decide)
  refine ⟨⟨fN, ok_num FN (blt3 T) FP gP, FunD.bindsN FN fun _ _ _ _ _ _ us hl => match us, hl with | [_, _, _], _ => rfl, FN.kp, gN, ?_⟩, ⟨f1, ok_pen F1 (blt T), FunD.bindsN F1 fun _ _ _ _ _ _ us hl => match us, hl with | [_], _ => rfl, F1.kp, g1⟩⟩
  intro s ws hl
  obtain ⟨oc, od, dV, kV, doc, pm, an, cdv, ct, osl, rfl, lk, hcd, hD, hK⟩ := FN.ex
  rcases hD with ⟨_, rfl⟩ | ⟨e, _⟩
  · match ws, hl with
    | [a, b, c], _ => exact .of_eq rfl
  · exact absurd rfl e
theorem code_law (T : KF P w K mg base) (TC : TabB base mg (cC K).1 (cC K).2) (TB : TabB base mg (cL K).1 (cL K).2) {f : Addr} {A : Around} {outer : List Env} {s : Shared} {H : Hp} {E : XK} {cdv : Value} (hcd : cdv = .ref (cL K).1) (hG : A.guards = some []) (hr : Room 11 (A.deeper (envOfC "law" (defScope sLw) s.heap.objs.size f cdv))) :
    ∃ t, PSs (cxOf CX0 P w K mg base scW_N "law" (defScope sLw) f cdv A outer s H E) (defBody sLw) t ∧ t = tLaw K := by
  obtain ⟨⟨fD, GD, bD, kD, gD⟩, ⟨fP, GP, bP, kP, gP⟩, _, ⟨fL, GL, bL, kL, gL⟩, _⟩ := cc T
  obtain ⟨_, _, _, ⟨f4, G4, b4, k4, g4⟩⟩ := ck T
  obtain ⟨mT, _, ⟨f2, G2, b2, b2k⟩, _, _⟩ := mm T
  obtain ⟨_, _, ⟨fs, Gs, bs⟩, ⟨fi, its, Gi, bi, kb⟩, ⟨fj, ds, Gj, bj, rj⟩, _⟩ := ww T
  obtain ⟨⟨fN, GN, bN, kN, gN, bNk⟩, ⟨fp, Gp, bp, kp, gp⟩⟩ := nn T
  obtain ⟨fr, Gr, br, kr, gr⟩ := ok_rt T TC
  obtain ⟨fc, Gc, bc, kc, gc⟩ := ok_chk T
  have hu := hr.units
  have nd := scW.nd
  have hm : ((cL K).2, qL) ∈ TL K := List.mem_cons_of_mem _ List.mem_cons_self
  have hu2 := tlL T
  refine ⟨_, PSs.nox (pss_cons (ps_set (i := 1) nd rfl (.inl rfl) (pe_call (E := E0) Gp (hr.mono (by decide)) (by rfl) gp kp bp .nil pass0 (pa_cons (pv 0) pa_nil)))
    (pss_cons (ps_for PassesOwn.never rfl (pi_range1 (by rfl) (T.fr "range" (by decide)) (pa_cons pe_int pa_nil)) (pg_name (i := 2) nd rfl (.inl rfl))
      (pss_cons (ps_if (pt_not (pt_val (pe_callG (E := E0) Gr (hr.mono (by decide)) hG (by rfl) gr kr br pass0 (pa_cons (pv 1) pa_nil)))) (pss_one (ps_ret pe_bl)) pss_nil)
      (pss_cons (ps_asg (pe_tup (pa_cons (pe_call (E := E0) GP (hr.mono (by decide)) (by rfl) gP kP bP .nil pass0 (pa_cons (pv 1) (pa_cons (pe_lst (pa_cons pe_non (pa_cons pe_int (pa_cons pe_bl (pa_cons (pe_lst (pa_cons pe_str pa_nil)) (pa_cons (pe_tup (pa_cons pe_str pa_nil)) (pa_cons pe_dnewK pa_nil))))))) pa_nil)))
            (pa_cons (pe_call (E := E0) GD (hr.mono (by decide)) (by rfl) gD kD bD .nil pass0 (pa_cons (pv 1) (pa_cons pe_int pa_nil))) pa_nil))) (pg_tup (by rfl) (pgs_cons (pg_name (i := 6) nd rfl (.inr rfl)) (pgs_cons (pg_name (i := 5) nd rfl (.inr rfl)) pgs_nil))))
      (pss_cons (ps_if (PW.pt (pw_or (pt_cmpR (op_neD hu) (pe_heard (k := 5) (t := fun E' => tMake (gW K) (spInit K) [] E' (tCons (tVar 6) (tCons (tVar 5) tNil))) T TB hcd hm hu2 (by rfl) (hr.mono (by decide)) (lamS_by (by show lamSB (defScope sLw) _ = true; decide +kernel)) rfl (fun _ _ _ _ _ => rfl)
              (fun A2 out2 s2 H2 E2 f2 c2 hr2 => pe_make T.mkr Gi (hr2.mono (by decide)) (by rfl) T.gw bi .nil (passes_call (takes_of rfl rfl rfl rfl) fun _ _ _ _ h => h) (pa_cons (pv 6) (pa_cons (pv 5) pa_nil)))) (pe_tup (pa_cons (pv 5) (pa_cons pe_int pa_nil))) (nomark _))
          (pw_or1 (pt_cmpR op_notN (pe_call (E := E0) GN (hr.mono (by decide)) (by rfl) gN kN bN .nil pass0 (pa_cons (pv 6) (pa_cons (pe_un un_neg pe_int) (pa_cons pe_int pa_nil)))) pe_non (nomark _))))) (pss_one (ps_ret pe_bl)) pss_nil)
      (pss_cons (ps_set (i := 3) nd rfl (.inl rfl) (pe_call (E := E0) GP (hr.mono (by decide)) (by rfl) gP kP bP .nil pass0 (pa_cons (pv 1) (pa_cons (pe_call0 (E := E0) G4 (hr.mono (by decide)) (by rfl) g4 k4 b4 .nil pass0) pa_nil))))
      (pss_one (ps_if (PW.pt (pw_or (pt_cmpR op_ne (pe_callB call_repV (by rfl) (T.fr "repr" (by decide)) PyProof.Rows.boot_repr (pa_cons (pe_call (E := E0) GN (hr.mono (by decide)) (by rfl) gN kN bN .nil pass0 (pa_cons (pv 3) (pa_cons (pe_un un_neg pe_int) (pa_cons (pe_op op_pow pe_int pe_int) pa_nil)))) pa_nil))
              (pe_callB call_repV (by rfl) (T.fr "repr" (by decide)) PyProof.Rows.boot_repr (pa_cons (pe_call (E := E0) GL (hr.mono (by decide)) (by rfl) gL kL bL .nil pass0 (pa_cons (pv 3) (pa_cons (pe_un un_neg pe_int) (pa_cons (pe_op op_pow pe_int pe_int) pa_nil)))) pa_nil)) (nomark _))
          (pw_or1 (pt_not (pt_val (pe_callG (E := E0) Gc (hr.mono (by decide)) hG (by rfl) gc kc bc pass0 (pa_cons (pv 1) pa_nil))))))) (pss_one (ps_ret pe_bl)) pss_nil)))))))
    (pss_cons (ps_for PassesOwn.never rfl (pi_list (pe_lst (pa_cons (pe_op op_mulS pe_str pe_int) (pa_cons (pe_op op_add_str pe_str (pe_op op_mulS pe_str pe_int)) (pa_cons (pe_op op_mulS pe_str pe_int) pa_nil))))) (pg_name (i := 4) nd rfl (.inl rfl))
      (pss_cons (ps_set (i := 7) nd rfl (.inr rfl) (pe_make (E := E0) T.mkr Gi (hr.mono (by decide)) (by rfl) T.gw bi .nil passL (pa_cons (pe_op op_add_str pe_str (pv 4)) (pa_cons pe_int pa_nil))))
      (pss_cons (ps_if (PW.pt (pw_or (pt_cmpR op_ne (pe_methR (E := E0) (pv 7) T.cl (mt T ("take", 6) (by decide)) mT (hr.mono (by decide)) passL (pa_cons pe_str pa_nil)) pe_str (nomark _))
          (pw_or1 (pt_cmpR (op_neD hu) (pe_heard (k := 5) (t := fun E' => tMeth (gW K) "take_number" (spTNum K) [] E' (tVar 7) (tCons (tUn (rU fun i => V.int (-i)) (tOp (rI CPow fun i j => V.int (i ^ j.toNat)) (tC (V.int 10)) (tC (V.int 39)))) (tCons (tOp (rI CPow fun i j => V.int (i ^ j.toNat)) (tC (V.int 10)) (tC (V.int 39))) tNil))) T TB hcd hm hu2 (by rfl) (hr.mono (by decide)) (lamS_by (by show lamSB (defScope sLw) _ = true; decide +kernel)) rfl (fun _ _ _ _ _ => rfl)
              (fun A2 out2 s2 H2 E2 f2 c2 hr2 => pe_meth (pv 7) T.cl (mt T ("take_number", 8) (by decide)) G2 (hr2.mono (by decide)) b2 .nil (passes_call (takes_of rfl rfl rfl rfl) fun _ _ _ _ h => h) (pa_cons (pe_un un_neg (pe_op op_pow pe_int pe_int)) (pa_cons (pe_op op_pow pe_int pe_int) pa_nil)))) (pe_tup (pa_cons pe_int (pa_cons pe_int pa_nil))) (nomark _))))) (pss_one (ps_ret pe_bl)) pss_nil)
      (pss_one (ps_if (PW.pt (pw_or (pt_cmpR op_ne (pe_prop (E := E0) (pv 7) T.cl T.pr Gs (hr.mono (by decide)) bs .nil pass0 (by rfl)) pe_int (nomark _))
          (pw_or (pt_cmpR op_notN (pe_call (E := E0) GN (hr.mono (by decide)) (by rfl) gN kN bN .nil pass0 (pa_cons (pv 4) (pa_cons (pe_un un_neg (pe_op op_pow pe_int pe_int)) (pa_cons (pe_op op_pow pe_int pe_int) pa_nil)))) pe_non (nomark _))
          (pw_or1 (pt_cmpR op_ne (pe_meth0R (E := E0) (pv 7) T.cl (mt T ("take", 6) (by decide)) mT (hr.mono (by decide)) passL) (pv 4) (nomark _)))))) (pss_one (ps_ret pe_bl)) pss_nil)))))
    (pss_one (ps_ret (pe_and (pe_cmpR op_eq (pe_meth0R (E := E0) (pe_make (E := E0) T.mkr Gj (hr.mono (by decide)) (by rfl) T.gw bj rj passL (pa_cons pe_str pa_nil)) T.cl (mt T ("take", 6) (by decide)) mT (hr.mono (by decide)) passL) pe_str (nomark _))
      (pe_one (pe_cmpR op_eq (pe_callKw (E := E0) GN (hr.mono (by decide)) (by rfl) gN kN bNk pass0 (pk_cons pe_str (pk_cons pe_int (pk_cons pe_int pk_nil)))) pe_int (nomark _))))))))), ?_⟩
  rfl
end
end K2

/-! text K2LawB -/
set_option Elab.async false
set_option linter.all false
set_option maxRecDepth 100000
set_option maxHeartbeats 400000
namespace K2
open PySem PySem.Spec PyProof.Rows L2 RV EV He EF EI Hd LamX Kw Gd
def smallV : V → Bool
  | .non => true
  | .int i => decide (i.natAbs.log2 < 1920)
  | _ => false
def repV : V → Str
  | .int i => toString i
  | _ => "None"
theorem repV_read {H : Hp} {Q : VK} {v : V} (h : smallV v = true) (k : Q (.str (repV v)) H) : rRepV [v] H Q := by
  cases v with
  | int i => exact .inl ⟨i, rfl, of_decide_eq_true h, k⟩
  | non => exact .inr ⟨rfl, k⟩
  | bl b => cases h
  | str x => cases h
  | ref a => cases h
  | ty t => cases h
  | _ => cases h
theorem small_all : (wordsL.all fun x => smallV (resL x (-40) (10 ^ 31))) = true := by decide +kernel
theorem num_sp {K : PySem.W.Frag} {H : Hp} {Q : VK} {E : XK} {x : Str} {lo hi : Int} {v : V} (M : NumAt x lo hi v) (k : Q v H) : spNum K [.str x, .int lo, .int hi] H Q E := by
  refine ⟨.str x, lo, hi, rfl, M.g1, M.g2, M.g3, M.g4, .inr ⟨x, rfl, M.x1, M.x2, ?_⟩⟩
  rcases M.cs with ⟨h, rfl⟩ | ⟨h, h2, rfl⟩ | ⟨h, h2, h3, n, e, rfl⟩
  · exact .inl ⟨h, k⟩
  · exact .inr (.inl ⟨h, h2, k⟩)
  · exact .inr (.inr ⟨h, h2, h3, n, e, k⟩)
section
variable {K : PySem.W.Frag} {H : Hp} {pen ce p dx tp S : Addr} {cs : List Int} {b g ln : Int} {t : Nat} {a0 a1 a2 a3 a4 a5 a6 a7 a8 a9 : Option V} {Q : VK} {D : Ends}
/-- a value that is no str, whatever comes -/
def NoStr (K : PySem.W.Frag) (pen : Addr) (H : Hp) (v : V) : Prop := ∃ t, kitB t "str" = some false ∧ ∀ H', (∀ c o, c ≠ pen → (∀ ps, o ≠ .tbl ps) → H c = some o → H' c = some o) → TyX K H' v (.type t)
theorem pen_ext {H' : Hp} (N : Pen H pen ce cs b g) (e : ExtN H H') : Pen H' pen ce cs b g := ⟨e _ _ N.pn (fun _ z => nomatch z), e _ _ N.ce (fun _ z => nomatch z), N.b0, N.g0, N.ln⟩
theorem a1_read (N : Pen H pen ce cs b g) (hb : b ≤ 800) (Tb : Tabs (TL K) H) (k : ∀ H' b' g', b' ≤ b + 40 → Pen H' pen ce cs b' g' → Tabs (TL K) H' → D.nx [a0, some (.ref pen), a2, a3, a4, a5, a6, a7] H') :
    tA1 K D [a0, some (.ref pen), a2, a3, a4, a5, a6, a7] H :=
  ⟨_, rfl, pen, ce, cs, b, g, rfl, N, hb, Tb, fun H' b' g' hb' N' k' T' => ⟨_, rfl, if_negB rfl (k H' b' g' hb' N' T')⟩⟩
theorem a2_read (N : Pen H pen ce cs b g) (hb : b ≤ 900) (Tb : Tabs (TL K) H) (k : ∀ v ln H' b' g', b' ≤ b + 2 → Pen H' pen ce cs b' g' → Tabs (TL K) H' → NoStr K pen H' v → D.nx [a0, some (.ref pen), a2, a3, a4, some (.int ln), some v, a7] H') :
    tA2 K D [a0, some (.ref pen), a2, a3, a4, a5, a6, a7] H := by
  refine ⟨_, rfl, (by show 1 ≤ sizeLine; decide), fun p1 n1 => ⟨(by show 1 ≤ sizeLine; decide), fun p2 n2 p3 n3 => ⟨(by show 6 ≤ sizeLine; decide), fun L nL => ?_⟩⟩⟩
  have e1 := same_new (o := .lst [V.str "f"]) n1
  have e2 := same_new (o := .tup [V.str "f"]) n2
  have e3 := same_new (o := .dK []) n3
  have eL := same_new (o := .lst [V.non, .int 0, .bl true, .ref p1, .ref p2, .ref p3]) nL
  have q1 := e1 _ _ N.pn
  have q2 := e2 _ _ q1
  have s := e1.trans (e2.trans (e3.trans eL))
  refine ⟨pen, ce, L, cs, b, g, _, rfl, N.same s, by omega, none_ne nL (e3 _ _ q2), upd_same, by simp, by simp, fun v b1 g1 H1 mv hb1 N1 k1 => ?_⟩
  have nv : NoStr K pen H1 v := by
    simp only [List.mem_cons, List.not_mem_nil, or_false] at mv
    rcases mv with rfl | rfl | rfl | rfl | rfl | rfl
    · exact ⟨"NoneType", by decide +kernel, fun H' _ => .base .non⟩
    · exact ⟨"int", by decide +kernel, fun H' _ => .base (.int 0)⟩
    · exact ⟨"bool", by decide +kernel, fun H' _ => .base (.bl true)⟩
    · exact ⟨"list", by decide +kernel, fun H' k' => .base (.lst (k' _ _ (none_ne n1 N.pn) (fun _ z => nomatch z) (k1 _ _ (none_ne n1 N.pn) (eL _ _ (e3 _ _ (e2 _ _ upd_same))))))⟩
    · exact ⟨"tuple", by decide +kernel, fun H' k' => .base (.tup (k' _ _ (none_ne n2 q1) (fun _ z => nomatch z) (k1 _ _ (none_ne n2 q1) (eL _ _ (e3 _ _ upd_same)))))⟩
    · exact ⟨"dict", by decide +kernel, fun H' k' => .base (.dK (k' _ _ (none_ne n3 q2) (fun _ z => nomatch z) (k1 _ _ (none_ne n3 q2) (eL _ _ upd_same))))⟩
  refine ⟨_, rfl, pen, ce, cs, b1, g1, 9, rfl, N1, by omega, by decide, by decide, fun r b2 g2 H2 r0 r9 hb2 N2 k2 => ⟨(by show 2 ≤ sizeLine; decide), fun q nq => ?_⟩⟩
  have eq := same_new (o := .tup [v, .int r]) nq
  refine ⟨q, _, rfl, SqT.of upd_same, rfl, _, _, rfl, _, _, rfl, rfl, ?_⟩
  obtain ⟨t, ht, hT⟩ := nv
  have T2 : Tabs (TL K) H2 := tabsL Tb N.pn fun c o hc e => k2 c o hc (k1 c o hc (s _ _ e))
  exact k v r _ b2 g2 (by omega) (N2.same eq) (T2.ext eq) ⟨t, ht, fun H' k' => hT H' fun c o hc hn e => k' c o hc hn (eq _ _ (k2 c o hc e))⟩
end
end K2

/-! text K2LawC -/
set_option Elab.async false
set_option linter.all false
set_option maxRecDepth 100000
set_option maxHeartbeats 400000
namespace K2
open PySem PySem.Spec PyProof.Rows L2 RV EV He EF EI Hd LamX Kw Gd
theorem g9 : (-9 : Int).natAbs.log2 < 1920 ∧ (9 : Int).natAbs.log2 < 1920 ∧ lenS (-9) ≤ 1000000 ∧ lenS 9 ≤ 1000000 := by decide +kernel
section
variable {K : PySem.W.Frag} {H : Hp} {pen ce p dx tp S : Addr} {cs : List Int} {b g ln : Int} {t : Nat} {a0 a1 a2 a3 a4 a5 a6 a7 a8 a9 : Option V} {Q : VK} {D : Ends}
theorem a3_read {v : V} (N : Pen H pen ce cs b g) (Tb : Tabs (TL K) H) (V0 : NoStr K pen H v) (k : ∀ H', Pen H' pen ce cs b g → Tabs (TL K) H' → D.nx [a0, some (.ref pen), a2, a3, a4, some (.int ln), some v, a7] H') :
    tA3 K D [a0, some (.ref pen), a2, a3, a4, some (.int ln), some v, a7] H := by
  obtain ⟨ty, ht, hT⟩ := V0
  refine ⟨Tb, fun H1 e1 T1 => ⟨v, rfl, _, rfl, fun x dx nx nd ne => ?_⟩⟩
  have s2 := new_same (C := gW K) nx nd
  refine ⟨x, dx, v, ln, rfl, upd_same, .inl ⟨ty, hT _ fun c o _ hn e => s2 _ _ (e1 _ _ e hn), ht, fun d nd' => ⟨d, .int ln, .int 0, rfl, rfl, upd_same, fun r H3 s3 hr => ?_⟩⟩⟩
  have s3' := (s2.trans (same_new (o := .xd [("word", .int 0), ("line", .int ln)]) nd')).trans s3
  refine ⟨_, rfl, (by show 2 ≤ sizeLine; decide), fun q nq => ?_⟩
  have eq := same_new (o := .tup [V.int ln, V.int 0]) nq
  refine ⟨.tuple [.int ln, .int 0], .tuple [.int ln, .int 0], .tup (SqT.of (eq _ _ hr)) (.cons (.int ln) (.cons (.int 0) .nil)), .tup (SqT.of upd_same) (.cons (.int ln) (.cons (.int 0) .nil)), shaped_pair _ _, shaped_pair _ _, _, rfl, if_negB (by rw [SeqAt.eqv_refl _ (lay_pair _ _)]; rfl) ?_⟩
  have ext : ExtN H (upd H3 q (.tup [V.int ln, V.int 0])) := e1.trans (ExtN.of (s3'.trans eq))
  obtain ⟨h1, h2, h3, h4⟩ := g9
  refine ⟨_, rfl, 9, rfl, v, -9, 9, rfl, h1, h2, h3, h4, .inl ⟨ty, hT _ fun c o _ hn e => ext _ _ e hn, ht, ⟨rfl, _, rfl, if_negB rfl ?_⟩⟩⟩
  exact k _ (pen_ext N ext) (T1.ext (s3'.trans eq))
theorem a4_read (N : Pen H pen ce cs b g) (hb : b ≤ 900) (Tb : Tabs (TL K) H) (k : ∀ x H' b' g', x ∈ wordsL → b' ≤ b + 1 → Pen H' pen ce cs b' g' → Tabs (TL K) H' → D.nx [a0, some (.ref pen), a2, some (.str x), a4, a5, a6, a7] H') :
    tA4 D [a0, some (.ref pen), a2, a3, a4, a5, a6, a7] H := by
  refine ⟨_, rfl, rfl, fun l H1 nl s1 hl => ⟨pen, ce, l, cs, b, g, _, rfl, N.same s1, by omega, none_ne nl N.pn, hl, wl.1, wl.2, fun z b2 g2 H2 mz hb2 N2 k2 => ?_⟩⟩
  obtain ⟨x, hx, rfl⟩ := List.mem_map.mp mz
  exact k x H2 b2 g2 hx hb2 N2 (tabsL Tb N.pn fun c o hc e => k2 c o hc (s1 _ _ e))
theorem b40 : ((-40 : Int), (10 ^ 31 : Int)) ∈ bndsL := by decide +kernel
theorem a5_read {x : Str} (hx : x ∈ wordsL) (N : Pen H pen ce cs b g) (hb : b ≤ 900) (Tb : Tabs (TL K) H) (k : ∀ H' b' g', b' ≤ b + 10 → Pen H' pen ce cs b' g' → Tabs (TL K) H' → D.nx [a0, some (.ref pen), a2, some (.str x), a4, a5, a6, a7] H') :
    tA5 K D [a0, some (.ref pen), a2, some (.str x), a4, a5, a6, a7] H := by
  have M : NumAt x (-40) (10 ^ 31) (resL x (-40) (10 ^ 31)) := num_at hx b40
  have sm := List.all_eq_true.mp small_all x hx
  obtain ⟨w1, w2, w3, w4, _⟩ := word_ok hx
  refine ⟨_, rfl, 40, rfl, 10, 31, rfl, rfl, ⟨by decide, by decide, by decide⟩, ?_⟩
  try unfold tNil
  show spNum K [.str x, .int (-40), .int (10 ^ 31)] H _ _
  refine num_sp M ?_
  try unfold tNil
  show rRepV [resL x (-40) (10 ^ 31)] H _
  refine repV_read sm ?_
  refine ⟨_, rfl, 40, rfl, 10, 31, rfl, rfl, ⟨by decide, by decide, by decide⟩, x, -40, 10 ^ 31, rfl, by omega, w3, w4, fun H1 s1 => ?_⟩
  try unfold tNil
  show rRepV [resL x (-40) (10 ^ 31)] H1 _
  refine repV_read sm ⟨rfl, _, rfl, if_negB (by simp) ?_⟩
  exact ⟨_, rfl, pen, ce, cs, b, g, rfl, N.same s1, hb, fun H' b' g' hb' N' k' => ⟨_, rfl, if_negB rfl (k H' b' g' hb' N' (tabsL Tb N.pn fun c o hc e => k' c o hc (s1 _ _ e)))⟩⟩
theorem all_read (N : Pen H pen ce cs b g) (hb : b ≤ 800) (Tb : Tabs (TL K) H) (k : ∀ x3 x5 x6 H' b' g', b' ≤ b + 55 → Pen H' pen ce cs b' g' → Tabs (TL K) H' → D.nx [a0, some (.ref pen), a2, x3, a4, x5, x6, a7] H') :
    tAll K D [a0, some (.ref pen), a2, a3, a4, a5, a6, a7] H := by
  refine seq_read (a1_read N hb Tb fun H1 b1 g1 hb1 N1 T1 => ?_)
  refine seq_read (a2_read N1 (by omega) T1 fun v ln H2 b2 g2 hb2 N2 T2 V2 => ?_)
  refine seq_read (a3_read N2 T2 V2 fun H3 N3 T3 => ?_)
  refine seq_read (a4_read N3 (by omega) T3 fun x H4 b4 g4 hx hb4 N4 T4 => ?_)
  exact a5_read hx N4 (by omega) T4 fun H5 b5 g5 hb5 N5 T5 => k _ _ _ H5 b5 g5 (by omega) N5 T5
theorem five_read (N : Pen H pen ce cs 0 0) (Tb : Tabs (TL K) H) (k : ∀ x2 x3 x5 x6 H', Tabs (TL K) H' → D.nx [a0, some (.ref pen), x2, x3, a4, x5, x6, a7] H') :
    tFor (iRng1 (tCons (tC (V.int 5)) tNil)) (gName 2) (tAll K) D [a0, some (.ref pen), a2, a3, a4, a5, a6, a7] H := by
  refine ⟨5, rfl, by decide, by decide, ?_⟩
  refine for_range (lo := 0) (n := 5) (g := gName 2) (tb := tAll K) (D := D) (fun i σ H' => ∃ (c2 c3 c5 c6 : Option V) (b' g' : Int), σ = [a0, some (.ref pen), c2, c3, a4, c5, c6, a7] ∧ b' ≤ 55 * i ∧ Pen H' pen ce cs b' g' ∧ Tabs (TL K) H')
    ⟨a2, a3, a5, a6, 0, 0, rfl, by omega, N, Tb⟩ ?_ ?_
  · rintro i σ H' hi ⟨c2, c3, c5, c6, b', g', rfl, hb', N', T'⟩
    exact all_read N' (by omega) T' fun x3 x5 x6 H2 b2 g2 hb2 N2 T2 => ⟨_, x3, x5, x6, b2, g2, rfl, by omega, N2, T2⟩
  · rintro σ H' ⟨c2, c3, c5, c6, b', g', rfl, hb', N', T'⟩
    exact k _ _ _ _ H' T'
end
end K2

/-! text K2LawD -/
set_option Elab.async false
set_option linter.all false
set_option maxRecDepth 100000
set_option maxHeartbeats 400000
namespace K2
open PySem PySem.Spec PyProof.Rows L2 RV EV He EF EI Hd LamX Kw Gd
theorem foldl_list (n : Nat) (z : Array Nat) : ∀ (a : Array Nat) (c : Nat), c ∈ ((List.replicate n z).foldl (· ++ ·) a).toList → c ∈ a.toList ∨ c ∈ z.toList := by
  induction n with
  | zero =>
    intro a c h
    exact .inl h
  | succ n ih =>
    intro a c h
    rw [List.replicate_succ, List.foldl_cons] at h
    rcases ih _ _ h with h1 | h1
    · rw [Array.toList_append] at h1
      exact List.mem_append.mp h1
    · exact .inr h1
theorem repS_mem {z : Str} {n c : Nat} (h : c ∈ (repS z n).cps.toList) : c ∈ z.cps.toList := by
  rcases foldl_list n z.cps #[] c h with h1 | h1
  · cases h1
  · exact h1
/-- a long word: 5000 figures -/
structure Long (x : Str) : Prop where
  lo : 100 < x.length
  hi : x.length ≤ 6000
  no : 32 ∉ x.cps.toList
theorem long_rep (z : Str) (h1 : z.length = 1) (h2 : 32 ∉ z.cps.toList) : Long (repS z (Int.toNat 5000)) := by
  have e : (repS z (Int.toNat 5000)).length = 5000 := by
    rw [repS_len, h1]
    rfl
  exact ⟨by omega, by omega, fun h => h2 (repS_mem h)⟩
theorem long_neg : Long (("-" : Str) ++ repS "9" (Int.toNat 5000)) := by
  have L := long_rep "9" rfl (by decide +kernel)
  have e1 : (("-" : Str)).length = 1 := rfl
  have e : (("-" : Str) ++ repS "9" (Int.toNat 5000)).length = 1 + (repS "9" (Int.toNat 5000)).length := by
    rw [strLen_append, e1]
  have a := L.lo
  have b := L.hi
  have hx : (repS "9" (Int.toNat 5000)).length = 5000 := by
    rw [repS_len]
    rfl
  refine ⟨by omega, by omega, fun h => ?_⟩
  have h' : 32 ∈ (("-" : Str).cps ++ (repS "9" (Int.toNat 5000)).cps).toList := h
  rw [Array.toList_append] at h'
  rcases List.mem_append.mp h' with z | z
  · exact absurd z (by decide +kernel)
  · exact L.no z
theorem b39 : ((-(10 ^ 39) : Int)).natAbs.log2 < 1920 ∧ ((10 ^ 39 : Int)).natAbs.log2 < 1920 ∧ lenS (-(10 ^ 39)) ≤ 1000000 ∧ lenS (10 ^ 39) ≤ 1000000 ∧ mxL (-(10 ^ 39)) (10 ^ 39) < 100 := by decide +kernel
theorem long_num {x : Str} (L : Long x) : NumAt x (-(10 ^ 39)) (10 ^ 39) .non := by
  obtain ⟨h1, h2, h3, h4, h5⟩ := b39
  have a := L.lo
  have b := L.hi
  have c : (digs x).length ≤ x.length := len_removeprefix x "-"
  refine ⟨h1, h2, h3, h4, by omega, by omega, ?_⟩
  cases e : plainB x with
  | true => exact .inr (.inl ⟨rfl, by omega, rfl⟩)
  | false => exact .inl ⟨rfl, rfl⟩
theorem long_split {x : Str} (L : Long x) : Txt.split (("to " : Str) ++ x) " " = (["to", x] : List Str) := by
  have e : ("to " : Str) ++ x = Txt.join " " ["to", x] := by
    rw [TL.join_eq]
    show ("to " : Str) ++ x = ("to" : Str) ++ (" " : Str) ++ x
    rfl
  rw [e]
  refine TL.split_join (y := " ") (s := 32) (S := []) rfl (by decide +kernel) (by simp) fun p hp => ?_
  rcases List.mem_cons.mp hp with rfl | hp
  · decide +kernel
  · rw [List.mem_singleton.mp hp]
    exact L.no
section
variable {K : PySem.W.Frag} {H : Hp} {pen ce p dx tp S : Addr} {cs : List Int} {b g ln : Int} {t : Nat} {x : Str} {a0 a1 a2 a3 a4 a5 a6 a7 a8 a9 : Option V} {Q : VK} {D : Ends}
theorem longs_read (k : ∀ L H' l1 l2 l3, Same H H' → H' L = some (.lst [.str l1, .str l2, .str l3]) → Long l1 → Long l2 → Long l3 → Q (.ref L) H') {σ : L2.St} : tLongs σ H Q := by
  have L9 := long_rep "9" rfl (by decide +kernel)
  have L0 := long_rep "0" rfl (by decide +kernel)
  have hx := L9.hi
  refine ⟨"9", 5000, rfl, rfl, by decide, by decide, by decide, by decide, "9", 5000, rfl, rfl, by decide, by decide, by decide, by decide, "-", repS "9" (Int.toNat 5000), rfl, rfl, ?_, "0", 5000, rfl, rfl, by decide, by decide, by decide, by decide, (by show 3 ≤ sizeLine; decide), fun L nL => ?_⟩
  · have e1 : (("-" : Str)).length = 1 := rfl
    rw [e1, sizeLine_eq]
    omega
  · exact k L _ _ _ _ (same_new nL) upd_same L9 long_neg L0
theorem c1_read (L : Long x) (k : ∀ p dx tp H', H p = none → Same H H' → WO K H' p dx tp ["to", x] 3 0 → D.nx [a0, a1, a2, a3, some (.str x), a5, a6, some (.ref p)] H') :
    tC1 K D [a0, a1, a2, a3, some (.str x), a5, a6, a7] H := by
  have b := L.hi
  have e3 : (("to " : Str)).length = 3 := rfl
  refine ⟨_, rfl, "to ", x, rfl, rfl, by rw [e3, sizeLine_eq]; omega, fun px dx nx nd ne => ?_⟩
  exact init_sp _ nx nd (by rw [strLen_append, e3]; omega) (long_split L) (by simp) fun tp H' s O => ⟨rfl, k px dx tp H' nx s O⟩
theorem c2_read (L : Long x) (O : WO K H p dx tp ["to", x] 3 0) (Tb : Tabs (TL K) H) (k : ∀ H', KeepT H H' p → Tabs (TL K) H' → WO K H' p dx tp ["to", x] 3 1 → D.nx [a0, a1, a2, a3, some (.str x), a5, a6, some (.ref p)] H') :
    tC2 K D [a0, a1, a2, a3, some (.str x), a5, a6, some (.ref p)] H := by
  refine ⟨_, rfl, p, dx, _, rfl, O.ob, rfl, tak_of ["to"] O (by decide) ⟨fun _ H1 s1 O1 => ?_, fun h => ?_⟩⟩
  · refine ⟨rfl, _, rfl, if_negB (by simp) ?_⟩
    have T1 := tabs2 Tb O.ob s1
    refine ⟨T1, fun H2 e2 T2 => ?_⟩
    have O2 := O1.ext e2
    refine ⟨_, rfl, p, dx, _, rfl, O2.ob, rfl, 10, 39, rfl, rfl, ⟨by decide, by decide, by decide⟩, _, rfl, 10, 39, rfl, rfl, ⟨by decide, by decide, by decide⟩, ?_⟩
    refine ⟨p, dx, tp, ["to", x], 3, 1, -(10 ^ 39), 10 ^ 39, .non, rfl, O2, fun _ => rfl, fun _ => long_num L, ⟨fun h => ?_, fun _ H3 s3 d nd => ⟨d, .int 3, .int 1, rfl, rfl, upd_same, fun r H4 s4 hr => ?_⟩⟩⟩
    · cases h
    · have s34 := (s3.trans (same_new (o := .xd [("word", .int 1), ("line", .int 3)]) nd)).trans s4
      refine ⟨(by show 2 ≤ sizeLine; decide), fun q nq => ?_⟩
      have eq := same_new (o := .tup [V.int 3, V.int 1]) nq
      refine ⟨.tuple [.int 3, .int 1], .tuple [.int 3, .int 1], .tup (SqT.of (eq _ _ hr)) (.cons (.int 3) (.cons (.int 1) .nil)), .tup (SqT.of upd_same) (.cons (.int 3) (.cons (.int 1) .nil)), shaped_pair _ _, shaped_pair _ _, _, rfl, if_negB (by rw [SeqAt.eqv_refl _ (lay_pair _ _)]; rfl) ?_⟩
      have s := s34.trans eq
      exact k _ (fun c o hc hn e => s _ _ (e2 _ _ (s1 c o hc e) hn)) (T2.ext s) (O2.same s)
  · exact absurd h (by simp [nextB])
theorem c3_read (L : Long x) (O : WO K H p dx tp ["to", x] 3 1) (Tb : Tabs (TL K) H) (k : ∀ H', KeepT H H' p → Tabs (TL K) H' → D.nx [a0, a1, a2, a3, some (.str x), a5, a6, some (.ref p)] H') :
    tC3 K D [a0, a1, a2, a3, some (.str x), a5, a6, some (.ref p)] H := by
  refine ⟨_, rfl, p, dx, _, rfl, O.ob, p, dx, tp, ["to", x], 3, 1, rfl, O, rfl, _, rfl, if_negB (by simp) ?_⟩
  refine ⟨_, rfl, 10, 39, rfl, rfl, ⟨by decide, by decide, by decide⟩, _, rfl, 10, 39, rfl, rfl, ⟨by decide, by decide, by decide⟩, ?_⟩
  try unfold tNil
  show spNum K [.str x, .int (-(10 ^ 39)), .int (10 ^ 39)] H _ _
  refine num_sp (long_num L) ⟨rfl, _, rfl, if_negB rfl ?_⟩
  refine ⟨_, rfl, p, dx, _, rfl, O.ob, rfl, tak_of [] O (by decide) ⟨fun _ H1 s1 O1 => ?_, fun h => ?_⟩⟩
  · exact ⟨_, rfl, rfl, _, rfl, if_negB (by simp) (k H1 (fun c o hc _ e => s1 c o hc e) (tabs2 Tb O.ob s1))⟩
  · exact absurd h (by simp [nextB])
theorem longs_loop {a4 : Option V} (Tb : Tabs (TL K) H) (k : ∀ σ H', Tabs (TL K) H' → D.nx σ H') : tFor (iList K tLongs) (gName 4) (tSeq (tC1 K) (tSeq (tC2 K) (tC3 K))) D [a0, a1, a2, a3, a4, a5, a6, a7] H := by
  unfold tFor iList
  refine longs_read fun A H1 l1 l2 l3 s1 hA L1 L2 L3 => ⟨A, rfl, ⟨_, SqL.of hA⟩, ?_⟩
  refine for_list (K := K) (a := A) (xs := [.str l1, .str l2, .str l3]) (tb := tSeq (tC1 K) (tSeq (tC2 K) (tC3 K))) (g := gName 4) (D := D) (fun i σ' H' => (∃ a4 a7, σ' = [a0, a1, a2, a3, a4, a5, a6, a7]) ∧ H' A = some (.lst [.str l1, .str l2, .str l3]) ∧ Tabs (TL K) H') ⟨⟨_, _, rfl⟩, hA, Tb.ext s1⟩ (fun i σ' H' _ p => SqL.of p.2.1) ?_ ?_
  · rintro i v σ' H' hv ⟨⟨a4, a7, rfl⟩, hA', T'⟩
    obtain ⟨x, rfl, Lx⟩ : ∃ x, v = .str x ∧ Long x := by
      have hm := List.mem_of_getElem? hv
      simp only [List.mem_cons, List.not_mem_nil, or_false] at hm
      rcases hm with rfl | rfl | rfl
      · exact ⟨_, rfl, L1⟩
      · exact ⟨_, rfl, L2⟩
      · exact ⟨_, rfl, L3⟩
    refine seq_read (c1_read Lx fun p dx tp H2 np s2 O => ?_)
    have hA2 := s2 _ _ hA'
    refine seq_read (c2_read Lx O (T'.ext s2) fun H3 k3 T3 O3 => ?_)
    have hA3 := k3 A (.lst [.str l1, .str l2, .str l3]) (ne_of hA2 O.ob (fun z => nomatch z)) (fun _ z => nomatch z) hA2
    refine c3_read Lx O3 T3 fun H4 k4 T4 => ?_
    exact ⟨⟨_, _, rfl⟩, k4 A (.lst [.str l1, .str l2, .str l3]) (ne_of hA2 O.ob (fun z => nomatch z)) (fun _ z => nomatch z) hA3, T4⟩
  · rintro σ' H' ⟨_, _, T'⟩
    exact k σ' H' T'
theorem num12 : NumAt "12" 12 12 (.int 12) := by
  have h : (12 : Int).natAbs.log2 < 1920 ∧ lenS 12 ≤ 1000000 ∧ (("12" : Str)).length ≤ 1000000 ∧ (digs "12").length ≤ 1000000 ∧ csB "12" 12 12 (.int 12) = true := by decide +kernel
  exact ⟨h.1, h.1, h.2.1, h.2.1, h.2.2.1, h.2.2.2.1, csB_ok h.2.2.2.2⟩
theorem empty_split : Txt.split (("" : Str)) " " = ([""] : List Str) := by decide +kernel
theorem last_read {σ : L2.St} (k : ∀ H', D.rt (.bl true) H') : tLast K D σ H := by
  refine fun x dx nx nd ne => ?_
  have ini := init_sp (K := K) (H := H) (R := fun v H2 => v = .non ∧ (fun x H1 => ∃ a dx fs, x = .ref a ∧ H1 a = some (.ins (gW K) dx fs) ∧ fs.lookup ("take" : Str) = none ∧ tNil σ H1 fun vs H2 => spStar (spTake0 K) (x :: vs) H2 (fun x H2 => tC (.str "") σ H2 fun y H3 => rEq x y H3 fun x H1 => ∃ c, x = .bl c ∧ if c = true then tOp rEq (tCallKw (spNum K) [0, 1, 2] 3 E0 (tCons (tC (V.str "12")) (tCons (tC (V.int 12)) (tCons (tC (V.int 12)) tNil)))) (tC (V.int 12)) σ H1 D.rt else D.rt (.bl false) H1) E0) (.ref x) H2) (x := x) (dx := dx) (txt := "") (ln := 0) E0 nx nd (by decide) empty_split (by decide) fun tp H1 s1 O => by
    refine ⟨rfl, x, dx, _, rfl, O.ob, rfl, tak_of [] O (by decide) ⟨fun _ H2 s2 O2 => ?_, fun h => ?_⟩⟩
    · refine ⟨rfl, true, by simp, if_posB rfl ⟨rfl, ?_⟩⟩
      show spNum K [.str "12", .int 12, .int 12] H2 _ _
      exact num_sp num12 ⟨rfl, k H2⟩
    · exact absurd h (by simp [nextB])
  exact ini
end
end K2

/-! text K2LawE -/
set_option Elab.async false
set_option linter.all false
set_option maxRecDepth 100000
set_option maxHeartbeats 400000
namespace K2
open PySem PySem.Spec PyProof.Rows L2 RV EV He EF EI Hd LamX Kw Gd
def spLaw (K : PySem.W.Frag) : Sp := fun vs H Q _ => ∃ (a : Addr) (ns : List Int), vs = [.ref a] ∧ SqL K H a (ns.map V.int) ∧ ns.length ≤ 63 ∧ Tabs (TL K) H ∧ ∀ H', Q (.bl true) H'
theorem read_law {K : PySem.W.Frag} {H : Hp} {Q : VK} {E : XK} {vs : List V} (h : spLaw K vs H Q E) : tLaw K { nx := fun _ H' => Q .non H', rt := Q } (L2.start scW_N vs) H := by
  obtain ⟨a, ns, rfl, hS, hl, Tb, k⟩ := h
  have e : L2.start scW_N [.ref a] = [some (.ref a), none, none, none, none, none, none, none] := rfl
  rw [e]
  unfold tLaw
  refine seq_read (asg_read ⟨_, rfl, a, ns, rfl, hS, hl, fun p ce cs H1 N s1 => ?_⟩)
  refine seq_read (five_read N (Tb.ext s1) fun x2 x3 x5 x6 H2 T2 => ?_)
  refine seq_read (longs_loop T2 fun σ H3 T3 => ?_)
  exact last_read fun H4 => k H4
section
variable {P : Program} {w : World} {K : PySem.W.Frag} {mg : Str → Option Value} {base : Heap}
theorem ok_law (T : KF P w K mg base) (TC : TabB base mg (cC K).1 (cC K).2) (TB : TabB base mg (cL K).1 (cL K).2) {fd : FuncData} (F : FnP K "law" sLw (ga K "law") fd) : FnG P w K mg base CX0 12 (ga K "law") fd ["_law_script"] (spLaw K) := by
  obtain ⟨oc, od, dV, kV, doc, pm, an, cdv, ct, osl, rfl, lk, hcd, _, _⟩ := F.ex
  obtain ⟨c, rfl⟩ := He.codeIn_ref hcd
  have ec : (cL K).1 = c := He.codeOf_eq (p := ("law", none)) lk rfl
  refine Gd.ofK lk hcd scW (fun vs H Q E h => ?_) (fun B out t H vs Q E hG hr h => ?_)
  · obtain ⟨a, ns, rfl, _⟩ := h
    rfl
  · obtain ⟨r, hr', rfl⟩ := code_law (E := E) T TC TB (by rw [ec]) hG hr
    exact ⟨_, hr', read_law h⟩
end
end K2

/-! text GuardT -/
set_option Elab.async false
set_option linter.all false
set_option maxRecDepth 100000
set_option maxHeartbeats 2000000
/-! The head's end for a law's def that asks for repr and holds lambdas: its tables are empty, no repr is under way. -/
namespace Gd
open PySem PySem.Spec PyProof.Rows L2
/-- an empty table of a code object -/
abbrev emptyT : Obj := { cls := .none, data := .fields #[] }
section
variable {P : Program} {w : World} {K : PySem.W.Frag} {mg mb : Str → Option Value} {k : Nat} {f a : Addr} {ps : List Addr} {fd : FuncData} {x : Str} {sp : Sp} {t : Shared} {us : List Value} {ns : List Int}
/-- what is tracked: the tables, and the script if K does not hold it -/
def trk (K : PySem.W.Frag) (ps : List Addr) (a : Addr) (us : List Value) (ns : List Int) : Hp := fun b =>
  if b ∈ ps then some (.tbl #[]) else if b = a then (match K.lookup a with
    | none => some (.frz { cls := .type "list", data := .seq us.toArray } (.lst (ns.map V.int)))
    | some _ => none) else none
theorem trk_tab {b : Addr} (h : b ∈ ps) : trk K ps a us ns b = some (.tbl #[]) := if_pos h
theorem trk_no {b : Addr} (h1 : b ∉ ps) (h2 : b ≠ a) : trk K ps a us ns b = none := (if_neg h1).trans (if_neg h2)
theorem trk_a (h : a ∉ ps) (e : K.lookup a = none) : trk K ps a us ns a = some (.frz { cls := .type "list", data := .seq us.toArray } (.lst (ns.map V.int))) := by
  unfold trk
  rw [if_neg h, if_pos rfl, e]
theorem trk_K {o : Obj} (h : a ∉ ps) (e : K.lookup a = some o) : trk K ps a us ns a = none := by
  unfold trk
  rw [if_neg h, if_pos rfl, e]
theorem law_callTG (KX : K.In t.heap) (gM : t.heap.Ns mainGlobals mg) (gB : t.heap.Ns builtinsNs mb) (gb : ∀ x : Str, x ≠ "__name__" → mb x = bootBuiltins x) (lim : t.heap.NoLimit) (hg : t.gens = #[])
    (hT : ∀ q ∈ ps, t.heap.get? q = some emptyT) (nT : ∀ q ∈ ps, K.lookup q = none) (C : ∀ q ∈ ps, ∃ c, PySem.W.CodeHd t.heap c q)
    (hbm : ∃ (bm : Addr) (ob : Obj), mg "__builtins__" = some (.ref bm) ∧ bm ≠ builtinsNs ∧ t.heap.get? bm = some ob ∧ ob.cls = .type "module" ∧ ob.dict = some builtinsNs ∧ ob.data = .plain)
    (ha : t.heap.get? a = some { cls := .type "list", data := .seq us.toArray }) (hi : IntsAre us ns) (hl : ns.length ≤ sizeLine) (hR : Room k callerA)
    (F : ∀ base : Heap, K.In base → base.Ns mainGlobals mg → (∀ q ∈ ps, base.BuiltinsAt mg q ∧ mainGlobals ≠ q) → FnG P w K mg base CX0 k f fd [x] sp) (hbind : ∀ (s : Shared) (u : Value), BindsTo s fd ⟨[u], []⟩ [(x, u)])
    (hsp : ∀ H : Hp, (∀ q ∈ ps, H q = some (.tbl #[])) → SqL K H a (ns.map V.int) → sp [.ref a] H (fun v _ => v = .bl true) fun _ _ _ => False)
    (hX : ∀ H e s', CX0 [] H t (fun _ _ _ => False) e s' → False) :
    codeAny (model P w) callerA (.call (.ref f) ⟨[.ref a], []⟩) (fun r s' => r = .ok (.ret (.bool true)) ∧ OldK t.heap s'.heap ∧ s'.os = t.os ∧ AllBare s'.gens) t := by
  have nA : a ∉ ps := fun z => by
    have q := hT a z
    rw [ha] at q
    exact nomatch congrArg Obj.data (Option.some.inj q)
  -- an object of another kind is not tracked
  have free : ∀ {b : Addr} {o : Obj}, t.heap.get? b = some o → (∀ vs n, o.data ≠ .seq vs n) → o.data ≠ .fields #[] → trk K ps a us ns b = none := fun {b o} e h1 h2 => by
    refine trk_no (fun z => ?_) fun z => ?_
    · rw [hT b z] at e
      cases e
      exact h2 rfl
    · rw [z, ha] at e
      cases e
      exact h1 _ _ rfl
  have seen : ∀ {b : Addr} {o : Obj}, t.heap.get? b = some o → trk K ps a us ns b = none → (hidT t.heap (trk K ps a us ns)).get? b = some o := fun e n => hidT_get e n
  have names : ∀ {b : Addr} {m : Str → Option Value}, t.heap.Ns b m → (hidT t.heap (trk K ps a us ns)).Ns b m := fun {b m} ⟨o, es, ep, e, d, r⟩ =>
    ⟨o, es, ep, seen e (free e (fun vs n z => nomatch d.symm.trans z) fun z => nomatch d.symm.trans z), d, r⟩
  have KH : K.In (hidT t.heap (trk K ps a us ns)) := fun b o e => seen (KX b o e) (by
    by_cases hb : b = a
    · rw [hb] at e ⊢
      exact trk_K nA e
    · exact trk_no (fun z => by rw [nT b z] at e; cases e) hb)
  have bi : ∀ q ∈ ps, (hidT t.heap (trk K ps a us ns)).BuiltinsAt mg q ∧ mainGlobals ≠ q := fun q hq => by
    obtain ⟨bm, ob, b1, b2, b3, b4, b5, b6⟩ := hbm
    obtain ⟨og, eg, pg, e1, e2, _⟩ := gM
    refine ⟨⟨bm, ob, b1, b2, fun z => ?_, fun z => ?_, seen b3 (free b3 (fun vs n z => nomatch b6.symm.trans z) fun z => nomatch b6.symm.trans z), b4, b5, b6⟩, fun z => ?_⟩
    · rw [z, e1] at b3
      cases b3
      exact nomatch b6.symm.trans e2
    · rw [z, hT q hq] at b3
      cases b3
      cases b6
    · rw [z, hT q hq] at e1
      cases e1
      cases e2
  have sq : SqL K (trk K ps a us ns) a (ns.map V.int) := by
    cases e : K.lookup a with
    | none => exact .inl (.inr ⟨_, trk_a nA e⟩)
    | some o =>
      have z := KX a o e
      rw [ha] at z
      cases z
      exact .inr ⟨_, us.toArray, _, e, rfl, rfl, rfl, by rw [List.size_toArray, hi.length]; exact hl, by simpa using vals_ints hi⟩
  have hok : HOk P w (trk K ps a us ns) t.heap := fun b u e => by
    by_cases h1 : b ∈ ps
    · rw [trk_tab h1] at e
      cases e
      exact hT b h1
    · by_cases h2 : b = a
      · subst h2
        cases eK : K.lookup b with
        | none =>
          rw [trk_a h1 eK] at e
          cases e
          exact ⟨ha, by rw [List.length_map]; exact hl, us, _, vals_ints hi, ha⟩
        | some o =>
          rw [trk_K h1 eK] at e
          cases e
      · rw [trk_no h1 h2] at e
        cases e
  have e0 : Env0 P w K mg (hidT t.heap (trk K ps a us ns)) callerA [] t (trk K ps a us ns) :=
    ⟨rfl, ⟨KH, names gM, ⟨mb, names gB, gb⟩, let ⟨m, i, j⟩ := lim; ⟨m, names i, j⟩⟩, fun b o e => of_hidT e, Nat.le_of_eq (hidT_size _ _), trivial, fun b e => absurd (show b ∈ ([] : List Addr) from e) (by simp), hok, .of_eq hg⟩
  refine codeAny_mono ((F _ KH (names gM) bi).go callerA [] t (trk K ps a us ns) ⟨[.ref a], []⟩ [.ref a] [.ref a] _ _ rfl hR e0 (hbind t (.ref a)) (.cons rfl .nil) (hsp _ (fun q hq => trk_tab hq) sq)) fun r s' h => ?_
  match r, h with
  | .error e, h => exact (hX (trk K ps a us ns) e s' h).elim
  | .ok (.ret u), h =>
    obtain ⟨v, H', os, bare, un, hok', r', q⟩ := h
    cases (show v = V.bl true from q)
    cases (show u = Value.bool true from r')
    -- what is no table stays
    have stay : ∀ b o, b ∉ ps → t.heap.get? b = some o → s'.heap.get? b = some o := fun b o nb e => by
      have same : trk K ps a us ns b = none → s'.heap.get? b = some o := fun z => un.keep b o e z (fun y => absurd (show b ∈ ([] : List Addr) from y) (by simp)) (by simp)
      by_cases hb : b = a
      · subst hb
        cases eK : K.lookup b with
        | some o' => exact same (trk_K nb eK)
        | none =>
          have y := trk_a (us := us) (ns := ns) nb eK
          have i1 := (hok b _ y).1
          have i2 := (hok' b _ (un.frzs b _ _ y)).1
          rw [e] at i1
          rw [i1]
          exact i2
      · exact same (trk_no nb hb)
    have grown : ∀ q ∈ ps, ∃ more : Array Value, s'.heap.get? q = some { cls := .none, data := .fields more } := fun q hq =>
      let ⟨_, z⟩ := un.tbls q #[] (trk_tab hq)
      ⟨_, hok' q _ z⟩
    refine ⟨rfl, ⟨fun b o e => ?_, fun b o e => ?_⟩, os, bare⟩
    · by_cases hb : b ∈ ps
      · obtain ⟨more, hm⟩ := grown b hb
        obtain ⟨c, hc⟩ := C b hb
        rw [hT b hb] at e
        cases e
        exact .inr (.inl ⟨(hc.tab (hT b hb)).isCodeTable, rfl, #[], more, rfl, by rw [Array.empty_append]; exact hm⟩)
      · exact .inl (stay b o hb e)
    · by_cases hb : b ∈ ps
      · obtain ⟨more, hm⟩ := grown b hb
        exact ⟨_, hm⟩
      · exact ⟨o, stay b o hb e⟩
end
theorem walkTG {l : PySem.W.OpenLaw} {n k : Nat} {q : Program} {loose : List Str} {XP : (Str → Option Value) → Heap → Prop} {YP : World → Heap → Prop} {d : DefRec} {x : Str}
    (hn : l.most = some n) (hn2 : n ≤ sizeLine) (hdf : d.params.defaults = []) (hR : Room k callerA)
    (F : ∀ (w : World) (mg : Str → Option Value) (fa : Addr) (h : Heap), YP w h → h.Ns mainGlobals mg → mg d.name = some (.ref fa) →
      ∃ (K : PySem.W.Frag) (ps : List Addr) (fd : FuncData) (sp : Sp), K.In h ∧ (∀ q ∈ ps, h.get? q = some emptyT) ∧ (∀ q ∈ ps, K.lookup q = none) ∧ (∀ q ∈ ps, ∃ c, PySem.W.CodeHd h c q) ∧ (∀ (s : Shared) (u : Value), BindsTo s fd ⟨[u], []⟩ [(x, u)]) ∧
        (∀ (H : Hp) (a : Addr) (ns : List Int), ns.length ≤ n → (∀ q ∈ ps, H q = some (.tbl #[])) → SqL K H a (ns.map V.int) → sp [.ref a] H (fun v _ => v = .bl true) fun _ _ _ => False) ∧
        ∀ base : Heap, K.In base → base.Ns mainGlobals mg → (∀ q ∈ ps, base.BuiltinsAt mg q ∧ mainGlobals ≠ q) → FnG l.prog w K mg base CX0 k fa fd [x] sp)
    (hX : ∀ (H : Hp) (s : Shared) (e : Value) (s' : Shared), CX0 [] H s (fun _ _ _ => False) e s' → False) :
    PySem.W.WalkO q loose XP YP l.row.toRowW d [] (fun f vs => PySem.call f vs) := by
  refine Att.attach_call hn hdf fun w s₀ s₁ mg mb fa o pm cd doc a vs ns G Y ho hd hcd hmg hobj hints hlen hg => ?_
  obtain ⟨K, ps, fd, sp, KX, hT, nT, C, hb, hsp, hF⟩ := F w mg fa _ Y G.T.g hmg
  exact law_callTG KX G.T.g G.T.b G.T.builtins G.T.nolimit hg hT nT C G.T.bmain hobj hints (Nat.le_trans hlen hn2) hR hF hb (fun H hO hS => hsp H a ns hlen hO hS) fun H e s' => hX H s₁ e s'
end Gd

/-! text K2End -/
set_option Elab.async false
set_option linter.all false
set_option maxRecDepth 100000
set_option maxHeartbeats 0
namespace K2
open PySem PySem.Spec PyProof.Rows L2 RV EV He EF EI Hd LamX Kw Gd
/-- the two tables -/
def tabsK (K : PySem.W.Frag) : List Addr := [(cC K).2, (cL K).2]
theorem tabs_of {K : PySem.W.Frag} {H : Hp} (h : ∀ q ∈ tabsK K, H q = some (.tbl #[])) : Tabs (TL K) H := by
  intro p hp
  unfold TL at hp
  rcases List.mem_cons.mp hp with rfl | hp
  · exact TabS.nil (h _ List.mem_cons_self)
  · rcases List.mem_cons.mp hp with rfl | hp
    · exact TabS.nil (h _ (List.mem_cons_of_mem _ List.mem_cons_self))
    · cases hp
theorem in_tabs {K : PySem.W.Frag} {q : Addr} (h : q ∈ tabsK K) : ∃ p ∈ tabN, q = (He.cT K p).2 := by
  unfold tabsK at h
  rcases List.mem_cons.mp h with rfl | h
  · exact ⟨("_law_called", none), List.mem_cons_self, rfl⟩
  · rcases List.mem_cons.mp h with rfl | h
    · exact ⟨("law", none), List.mem_cons_of_mem _ List.mem_cons_self, rfl⟩
    · cases h
end K2
open PySem PySem.W PySem.Calls PyProof.Rows
theorem PySem.Challenge.cw_editionlines_k02_words_taken_one_by_one_holds : PySem.Challenge.rw_editionlines_k02_words_taken_one_by_one.Holds := by
  w_on; o_law
  refine HandSHeadRun.head_any (r := OpenLaw.row PySem.Challenge.rw_editionlines_k02_words_taken_one_by_one) (q := view (OpenLaw.row PySem.Challenge.rw_editionlines_k02_words_taken_one_by_one).prog [27]) (H := K2.hkS) (ob := K2.obT) (M := 9500) (loose := K2.loose) (d := HandSHeadRun.topDef (OpenLaw.row PySem.Challenge.rw_editionlines_k02_words_taken_one_by_one).prog 27) (kwd := []) K2.obT_eq
    (by kernel_rfl) (fun s => by kernel_rfl) K2.runS (by kernel_rfl) (by kernel_rfl) (by kernel_rfl) (by rfl) (by first | assumption | decide +kernel) (by decide +kernel) ⟨rfl, rfl, rfl, rfl, rfl, by decide +kernel⟩ ?hw ?hc
  case hw => w_witness2
  case hc =>
    refine Gd.walkTG (l := PySem.Challenge.rw_editionlines_k02_words_taken_one_by_one) (n := 63) (k := 12) (x := "_law_script") rfl (by decide) (by kernel_rfl) ⟨rfl, by decide, by decide⟩ ?F (fun _ _ _ _ z => z)
    intro w mg fa h Y G hmg0
    obtain ⟨K, KX, c⟩ := Y
    have hmg : mg ("law" : PySem.Str) = some (.ref fa) := by
      have e : (HandSHeadRun.topDef (OpenLaw.row PySem.Challenge.rw_editionlines_k02_words_taken_one_by_one).prog 27).name = ("law" : PySem.Str) := by kernel_rfl
      rw [← e]
      exact hmg0
    obtain ⟨fd, F, g⟩ := (K2.kf (P := (PySem.Challenge.rw_editionlines_k02_words_taken_one_by_one).prog) KX G c h).tops ("law", 27) (by decide)
    cases hmg.symm.trans g
    have b := L2.FunD.bindsA (ps := ["_law_script"]) F fun _ _ _ _ _ _ us hl => match us, hl with | [_], _ => rfl
    refine ⟨K, K2.tabsK K, fd, K2.spLaw K, KX, fun q hq => ?_, fun q hq => ?_, fun q hq => ?_, fun s u => b s [u] rfl, fun H a ns hl hH hS => ⟨a, ns, rfl, hS, hl, K2.tabs_of hH, fun _ => rfl⟩, fun base KB GB hb => ?_⟩
    · obtain ⟨p, hp, rfl⟩ := K2.in_tabs hq
      exact c.x.empty p hp
    · obtain ⟨p, hp, rfl⟩ := K2.in_tabs hq
      exact c.x.out p hp
    · obtain ⟨p, hp, rfl⟩ := K2.in_tabs hq
      exact ⟨_, PySem.W.codeHd_of_K KX (c.x.hd p hp)⟩
    · have tb : ∀ p ∈ K2.tabN, (He.cT K p).2 ∈ K2.tabsK K → LamX.TabB base mg (He.cT K p).1 (He.cT K p).2 := fun p hp hq => ⟨PySem.W.codeHd_of_K KB (c.x.hd p hp), (hb _ hq).1, (hb _ hq).2⟩
      exact K2.ok_law (K2.kf KX G c base) (tb ("_law_called", none) List.mem_cons_self List.mem_cons_self) (tb ("law", none) (List.mem_cons_of_mem _ List.mem_cons_self) (List.mem_cons_of_mem _ List.mem_cons_self)) F
