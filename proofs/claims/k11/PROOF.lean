import PyProof.Rows.All
import Wide.All
import OpenK.AllK
import Wide.FinOn
import HandS.ForMost
import HandS.IsInst
import HandS.SetFor
import HandS.Wide
import HandS.Defaults
import HandS.DictTup
import HandS.More
import PySem.Challenge.RW_twoalone_k11_what_is_known
set_option Elab.async false
set_option maxRecDepth 100000
set_option maxHeartbeats 4000000
namespace TA
open PySem L2 PyProof.Rows
set_option linter.unusedVariables false
def top (i : Nat) : Stmt := PySem.Challenge.pw_twoalone_k11_what_is_known.main.body.getD i (.Pass ⟨0, 0, 0, 0⟩)
abbrev sWhole : Stmt := top 2
abbrev sWithin : Stmt := top 3
abbrev sHand : Stmt := top 4
abbrev sInputs : Stmt := top 13
abbrev sWeaving : Stmt := top 14
abbrev sPut : Stmt := top 15
abbrev sKnown : Stmt := top 16
abbrev sCell : Stmt := top 18
abbrev sWell : Stmt := top 19
abbrev sDraw : Stmt := top 20
abbrev sOne : Stmt := top 21
abbrev sBehind : Stmt := top 22
abbrev sLawWeav : Stmt := top 23
abbrev sRight : Stmt := top 24
abbrev sLaw : Stmt := top 25

structure Txt (K : PySem.W.Frag) (mg : Str → Option Value) : Prop where
  isi : mg "isinstance" = none
  int : mg "int" = none
  bool : mg "bool" = none
  len : mg "len" = none
  range : mg "range" = none
  list : mg "list" = none
  tuple : mg "tuple" = none
  all : mg "all" = none
  sum : mg "sum" = none
  min : mg "min" = none
theorem same_new {H : Hp} {p : Addr} (h : H p = none) (o : HO) : Same H (upd H p o) := fun b u q => by rw [upd_ne (ne_of_none q h)]; exact q

/-! the small promises -/
def spWhole : Sp := fun vs H Q _ => ∃ n : Int, vs = [.int n] ∧ Q (.bl true) H
def spWithin : Sp := fun vs H Q _ => ∃ a b c : Int, vs = [.int a, .int b, .int c] ∧ Q (.bl (decide (b ≤ a ∧ a ≤ c))) H
def spCell (K : PySem.W.Frag) : Sp := fun vs H Q _ => ∃ (a : Addr) (ns : List Int) (k : Int), vs = [.ref a, .int k] ∧ SqL K H a (ns.map V.int) ∧ ns.length ≤ 1000 ∧ 0 ≤ k ∧ ∀ c : Int, Q (.int c) H
def spWell : Sp := fun vs H Q _ => ∃ c : Int, vs = [.int c] ∧ ∀ (p : Addr) (x y : Int), H p = none → 0 ≤ x → 0 ≤ y → y < 2147483629 → Q (.ref p) (upd H p (.lst [.int x, .int y, .int 0]))
def spDraw : Sp := fun vs H Q _ => ∃ (a : Addr) (x y z m : Int), vs = [.ref a, .int m] ∧ H a = some (.lst [.int x, .int y, .int z]) ∧ 0 ≤ x ∧ 0 ≤ y ∧ y < 2147483629 ∧ 0 ≤ z ∧ z < 1000000 ∧ 0 < m ∧ m < 2 ^ 100 ∧
  ∀ (r x' z' : Int), 0 ≤ r → r < m → 0 ≤ x' → z ≤ z' → z' ≤ z + 1 → Q (.int r) (upd H a (.lst [.int x', .int y, .int z']))
section
variable {P : Program} {w : World} {K : PySem.W.Frag} {mg : Str → Option Value} {base : Heap}

theorem scWhole : FnScope ["thing"] ["thing"] (defScope sWhole) := ⟨rfl, rfl, rfl, by decide +kernel, rfl, by decide +kernel, by decide +kernel⟩
theorem ok_whole {f : Addr} {fd : FuncData} (F : Fun K "is_whole" "is_whole" sWhole f fd) (T : Txt K mg) : FnOk P w K mg base CX0 1 f fd ["thing"] spWhole := by
  refine F.ok scWhole (fun vs H Q E h => ?_) (fun cdv A outer s H vs Q E hr h => ?_)
  · obtain ⟨n, rfl, _⟩ := h
    rfl
  obtain ⟨n, rfl, q⟩ := h
  refine ⟨_, pss_one (ps_ret (pe_and (pe_callB call_isi (by rfl) T.isi boot_isinstance (pa_cons (pv 0) (pa_cons (pe_bltn (v := .ty "int") (by rfl) T.int boot_int rfl) pa_nil)))
    (pe_one (pe_not (pe_callB call_isi (by rfl) T.isi boot_isinstance (pa_cons (pv 0) (pa_cons (pe_bltn (v := .ty "bool") (by rfl) T.bool boot_bool rfl) pa_nil))))))), ?_⟩
  refine ⟨_, rfl, V.int n, V.ty "int", _, _, true, rfl, .ty "int", .base (.int n), kit_ty (by decide +kernel), true, rfl, iteT ?_⟩
  exact ⟨_, rfl, V.int n, V.ty "bool", _, _, false, rfl, .ty "bool", .base (.int n), kit_ty (by decide +kernel), false, rfl, q⟩

theorem scWithin : FnScope ["thing", "least", "most"] ["thing", "least", "most"] (defScope sWithin) := ⟨rfl, rfl, rfl, by decide +kernel, rfl, by decide +kernel, by decide +kernel⟩
theorem ok_within {f g : Addr} {fd gd : FuncData} (F : Fun K "is_whole_within" "is_whole_within" sWithin f fd) (G : FnOk P w K mg base CX0 1 g gd ["thing"] spWhole) (bG : Binds K gd ["thing"] []) (kG : PySem.W.keepIn K (.ref g) = true) (mG : mg "is_whole" = some (.ref g)) :
    FnOk P w K mg base CX0 2 f fd ["thing", "least", "most"] spWithin := by
  refine F.ok scWithin (fun vs H Q E h => ?_) (fun cdv A outer s H vs Q E hr h => ?_)
  · obtain ⟨a, b, c, rfl, _⟩ := h
    rfl
  obtain ⟨a, b, c, rfl, q⟩ := h
  refine ⟨_, pss_one (ps_ret (pe_and (pe_call G hr rfl mG kG bG .nil pass0 (pa_cons (pv 0) pa_nil)) (pe_one (pe_chain op_le op_le (pv 1) (pv 0) (pv 2))))), ?_⟩
  refine ⟨_, rfl, a, rfl, true, rfl, iteT ?_⟩
  refine ⟨_, rfl, _, rfl, _, _, rfl, rfl, _, rfl, ?_⟩
  by_cases h1 : b ≤ a
  · rw [decide_eq_true h1]
    refine iteT ?_
    refine ⟨_, rfl, _, _, rfl, rfl, ?_⟩
    have e : decide (b ≤ a ∧ a ≤ c) = decide (a ≤ c) := by simp [h1]
    rw [e] at q
    exact q
  · rw [decide_eq_false h1]
    refine iteF ?_
    have e : decide (b ≤ a ∧ a ≤ c) = false := by simp [h1]
    rw [e] at q
    exact q

theorem scCell : FnScope ["_law_script", "_law_k"] ["_law_script", "_law_k"] (defScope sCell) := ⟨rfl, rfl, rfl, by decide +kernel, rfl, by decide +kernel, by decide +kernel⟩
theorem ok_cell {f : Addr} {fd : FuncData} (F : Fun K "_law_cell_at" "_law_cell_at" sCell f fd) (T : Txt K mg) : FnOk P w K mg base CX0 1 f fd ["_law_script", "_law_k"] (spCell K) := by
  refine F.ok scCell (fun vs H Q E h => ?_) (fun cdv A outer s H vs Q E hr h => ?_)
  · obtain ⟨a, ns, k, rfl, _⟩ := h
    rfl
  obtain ⟨a, ns, k, rfl, hS, hn, hk, q⟩ := h
  refine ⟨_, pss_cons (ps_if (pt_cmpR op_lt (pv 1) (pe_callB call_len_seq (by rfl) T.len PySem.boot_len (pa_cons (pv 0) pa_nil)) (nomark _)) (pss_one (ps_ret (pe_ix ix_list (pv 0) (pv 1) (fun _ _ => rfl)))) pss_nil)
    (pss_one (ps_ret pe_int)), ?_⟩
  refine ⟨_, rfl, _, rfl, a, _, rfl, .inl hS, _, _, rfl, rfl, _, rfl, ?_⟩
  refine ite2 (fun c => ?_) (fun c => ?_)
  · have c' : k < (((ns.map V.int).length : Nat) : Int) := of_decide_eq_true c
    rw [List.length_map] at c'
    have hk' : k.toNat < ns.length := by omega
    have ek : k = ((k.toNat : Nat) : Int) := by omega
    have g : atI (ns.map V.int) ((k.toNat : Nat) : Int) = some (.int ns[k.toNat]) := atI_nat (by rw [List.getElem?_map, List.getElem?_eq_getElem hk'] <;> rfl)
    rw [← ek] at g
    exact ⟨_, rfl, _, rfl, a, _, _, _, rfl, rfl, hS, g, q _⟩
  · exact q 0

theorem scWell : FnScope ["_law_cell"] ["_law_cell"] (defScope sWell) := ⟨rfl, rfl, rfl, by decide +kernel, rfl, by decide +kernel, by decide +kernel⟩
theorem ok_well {f : Addr} {fd : FuncData} (F : Fun K "_law_well" "_law_well" sWell f fd) (T : Txt K mg) : FnOk P w K mg base CX0 1 f fd ["_law_cell"] spWell := by
  refine F.ok scWell (fun vs H Q E h => ?_) (fun cdv A outer s H vs Q E hr h => ?_)
  · obtain ⟨c, rfl, _⟩ := h
    rfl
  obtain ⟨c, rfl, q⟩ := h
  refine ⟨_, pss_one (ps_ret (pe_lst (pa_cons (pe_op op_mul (pv 0) (pe_callTy call_int1 (by rfl) T.int boot_int (pa_cons (pe_cmpR op_ge (pv 0) (pe_op op_pow pe_int pe_int) (nomark _)) pa_nil)))
    (pa_cons (pe_op op_mod (pv 0) pe_int) (pa_cons pe_int pa_nil))))), ?_⟩
  refine ⟨_, rfl, _, rfl, _, _, rfl, rfl, ⟨by decide, by decide, by decide⟩, _, _, rfl, rfl, .inr ⟨_, rfl, ?_⟩⟩
  have b : ∀ k : Bool, CMul c (if k = true then 1 else 0) := fun k => .inr (by cases k <;> decide)
  refine ⟨_, _, rfl, rfl, b _, _, rfl, _, _, rfl, rfl, (by show (0 : Int) < 2147483629; decide), (by show 3 ≤ sizeLine; decide), fun p hp => ?_⟩
  have m0 : 0 ≤ c % 2147483629 := Int.emod_nonneg _ (by decide)
  have m1 : c % 2147483629 < 2147483629 := Int.emod_lt_of_pos _ (by decide)
  refine q p _ _ hp ?_ m0 m1
  by_cases hc : c ≥ 10 ^ (18 : Int).toNat
  · rw [decide_eq_true hc]
    have : (0 : Int) ≤ 10 ^ (18 : Int).toNat := by decide
    show 0 ≤ c * 1
    omega
  · rw [decide_eq_false hc]
    show 0 ≤ c * 0
    omega

theorem scDraw : FnScope ["_law_well_here", "_law_many", "_law_found", "_law_number"] ["_law_well_here", "_law_many"] (defScope sDraw) := ⟨rfl, rfl, rfl, by decide +kernel, rfl, by decide +kernel, by decide +kernel⟩
theorem ok_draw {f : Addr} {fd : FuncData} (F : Fun K "_law_draw" "_law_draw" sDraw f fd) : FnOk P w K mg base CX0 1 f fd ["_law_well_here", "_law_many"] spDraw := by
  refine F.ok scDraw (fun vs H Q E h => ?_) (fun cdv A outer s H vs Q E hr h => ?_)
  · obtain ⟨a, x, y, z, m, rfl, _⟩ := h
    rfl
  obtain ⟨a, x, y, z, m, rfl, hL, hx, hy, hy2, hz, hz2, hm, hm2, q⟩ := h
  have nd := scDraw.nd
  refine ⟨_, pss_cons (ps_if (pt_cmpR op_gt (pe_ix ix_list (pv 0) pe_int (fun _ _ => rfl)) pe_int (nomark _))
      (pss_cons (ps_set (i := 2) nd rfl (Or.inl rfl) (pe_op op_mod (pe_ix ix_list (pv 0) pe_int (fun _ _ => rfl)) (pv 1)))
        (pss_cons (ps_asg (pe_op op_fdivW (pe_ix ix_list (pv 0) pe_int (fun _ _ => rfl)) (pv 1)) (pg_sub (pv 0) pe_int set_list))
          (pss_one (ps_ret (pv 2))))) pss_nil)
    (pss_cons (ps_asg (pe_op op_add (pe_ix ix_list (pv 0) pe_int (fun _ _ => rfl)) pe_int) (pg_sub (pv 0) pe_int set_list))
    (pss_cons (ps_set (i := 3) nd rfl (Or.inl rfl) (pe_op op_mod (pe_op op_mul (pe_op op_add (pe_op op_add (pe_ix ix_list (pv 0) pe_int (fun _ _ => rfl)) (pe_op op_mul pe_int (pe_ix ix_list (pv 0) pe_int (fun _ _ => rfl)))) pe_int) pe_int) pe_int))
    (pss_cons (ps_set (i := 3) nd rfl (Or.inl rfl) (pe_op op_mod (pe_op op_mul (pv 3) (pe_op op_add (pe_op op_add (pe_op op_fdiv (pv 3) pe_int) pe_int) (pe_ix ix_list (pv 0) pe_int (fun _ _ => rfl)))) pe_int))
    (pss_one (ps_ret (pe_op op_mod (pe_op op_fdiv (pe_op op_mod (pe_op op_mul (pv 3) (pe_op op_add (pe_op op_fdiv (pv 3) pe_int) pe_int)) pe_int) pe_int) (pv 1))))))), ?_⟩
  refine ⟨_, rfl, a, _, _, _, rfl, rfl, SqL.of hL, rfl, _, _, rfl, rfl, _, rfl, ?_⟩
  refine ite2 (fun c => ?_) (fun c => ?_)
  · have c' : x > 0 := of_decide_eq_true c
    refine ⟨_, rfl, a, _, _, _, rfl, rfl, SqL.of hL, rfl, _, rfl, _, _, rfl, rfl, hm, ?_⟩
    refine ⟨_, rfl, a, _, _, _, rfl, rfl, SqL.of hL, rfl, _, rfl, _, _, rfl, rfl, wide_div (b := 100) hm (by omega) (by decide) (by decide), ?_⟩
    refine ⟨_, rfl, a, _, _, 0, rfl, rfl, hL, rfl, _, rfl, ?_⟩
    exact q _ _ _ (Int.emod_nonneg _ (by omega)) (Int.emod_lt_of_pos _ hm) (Int.ediv_nonneg hx (by omega)) (Int.le_refl _) (by omega)
  · have hL2 : (upd H a (.lst [.int x, .int y, .int (z + 1)])) a = some (.lst [.int x, .int y, .int (z + 1)]) := upd_same
    refine ⟨_, rfl, a, _, _, _, rfl, rfl, SqL.of hL, rfl, _, _, rfl, rfl, ?_⟩
    refine ⟨_, rfl, a, _, _, 2, rfl, rfl, hL, rfl, ?_⟩
    refine ⟨_, rfl, a, _, _, _, rfl, rfl, SqL.of hL2, rfl, _, rfl, a, _, _, _, rfl, rfl, SqL.of hL2, rfl, _, _, rfl, rfl, .inl ⟨by decide, by decide⟩, _, _, rfl, rfl, _, _, rfl, rfl, _, _, rfl, rfl, .inr ⟨by decide, by decide⟩, _, _, rfl, rfl, (by show (0 : Int) < 2147483629; decide), ?_⟩
    have n0 := Int.emod_nonneg ((y + 86969 * (z + 1) + 1) * 48271) (show (2147483629 : Int) ≠ 0 by decide)
    have n1 := Int.emod_lt_of_pos ((y + 86969 * (z + 1) + 1) * 48271) (show (0 : Int) < 2147483629 by decide)
    generalize ((y + 86969 * (z + 1) + 1) * 48271) % 2147483629 = n at n0 n1 ⊢
    refine ⟨_, rfl, _, rfl, _, _, rfl, rfl, ⟨by decide, by decide⟩, _, _, rfl, rfl, _, rfl, a, _, _, _, rfl, rfl, SqL.of hL2, rfl, _, _, rfl, rfl, _, _, rfl, rfl, .inl ⟨by omega, by omega⟩, _, _, rfl, rfl, (by show (0 : Int) < 2147483587; decide), ?_⟩
    have k0 := Int.emod_nonneg (n * (n / 1013 + 69623 + (z + 1))) (show (2147483587 : Int) ≠ 0 by decide)
    have k1 := Int.emod_lt_of_pos (n * (n / 1013 + 69623 + (z + 1))) (show (0 : Int) < 2147483587 by decide)
    generalize (n * (n / 1013 + 69623 + (z + 1))) % 2147483587 = k at k0 k1 ⊢
    refine ⟨_, rfl, _, rfl, _, _, rfl, rfl, ⟨by decide, by decide⟩, _, _, rfl, rfl, _, _, rfl, rfl, .inl ⟨by omega, by omega⟩, _, _, rfl, rfl, (by show (0 : Int) < 2147483563; decide), _, _, rfl, rfl, ⟨by decide, by decide⟩, _, rfl, _, _, rfl, rfl, hm, ?_⟩
    exact q _ _ _ (Int.emod_nonneg _ (by omega)) (Int.emod_lt_of_pos _ hm) hx (by omega) (by omega)

/-- _law_one: SOME item of the list -/
def spOne (K : PySem.W.Frag) : Sp := fun vs H Q _ => ∃ (a l : Addr) (x y z : Int) (xs : List V), vs = [.ref a, .ref l] ∧ H a = some (.lst [.int x, .int y, .int z]) ∧ 0 ≤ x ∧ 0 ≤ y ∧ y < 2147483629 ∧ 0 ≤ z ∧ z < 1000000 ∧ H l = some (.lst xs) ∧ a ≠ l ∧ 0 < xs.length ∧ xs.length < 1000 ∧
  ∀ (i : Nat) (v : V) (x' z' : Int), xs[i]? = some v → 0 ≤ x' → z ≤ z' → z' ≤ z + 1 → Q v (upd H a (.lst [.int x', .int y, .int z']))
theorem scOne : FnScope ["_law_well_here", "_law_some"] ["_law_well_here", "_law_some"] (defScope sOne) := ⟨rfl, rfl, rfl, by decide +kernel, rfl, by decide +kernel, by decide +kernel⟩
theorem ok_one {f g : Addr} {fd gd : FuncData} (F : Fun K "_law_one" "_law_one" sOne f fd) (T : Txt K mg) (G : FnOk P w K mg base CX0 1 g gd ["_law_well_here", "_law_many"] spDraw) (bG : Binds K gd ["_law_well_here", "_law_many"] []) (kG : PySem.W.keepIn K (.ref g) = true) (mG : mg "_law_draw" = some (.ref g)) :
    FnOk P w K mg base CX0 2 f fd ["_law_well_here", "_law_some"] (spOne K) := by
  refine F.ok scOne (fun vs H Q E h => ?_) (fun cdv A outer s H vs Q E hr h => ?_)
  · obtain ⟨a, l, x, y, z, xs, rfl, _⟩ := h
    rfl
  obtain ⟨a, l, x, y, z, xs, rfl, hL, hx, hy, hy2, hz, hz2, hl, hal, hn0, hn1, q⟩ := h
  refine ⟨_, pss_one (ps_ret (pe_ix ix_list (pv 1) (pe_call G hr rfl mG kG bG .nil pass0 (pa_cons (pv 0) (pa_cons (pe_callB call_len_seq (by rfl) T.len PySem.boot_len (pa_cons (pv 1) pa_nil)) pa_nil))) (fun _ _ => rfl))), ?_⟩
  refine ⟨_, rfl, _, rfl, _, rfl, l, _, rfl, .inl (SqL.of hl), a, x, y, z, _, rfl, hL, hx, hy, hy2, hz, hz2, by omega, by omega, fun r x' z' r0 r1 x0 z0 z1 => ?_⟩
  have hr' : r.toNat < xs.length := by omega
  have er : r = ((r.toNat : Nat) : Int) := by omega
  have g : atI xs ((r.toNat : Nat) : Int) = some xs[r.toNat] := atI_nat (List.getElem?_eq_getElem hr')
  rw [← er] at g
  exact ⟨l, _, _, _, rfl, rfl, SqL.of (by rw [upd_ne hal.symm]; exact hl), g, q r.toNat _ _ _ (List.getElem?_eq_getElem hr') x0 z0 z1⟩
end
end TA

set_option Elab.async false
set_option maxRecDepth 100000
set_option maxHeartbeats 4000000
namespace TA
open PySem L2 PyProof.Rows
set_option linter.unusedVariables false
/-! what a hand knows, on the heap: ints, None, tuples of two -/
inductive Kn (H : Hp) : V → PyData → Prop
  | int (i : Int) : Kn H (.int i) (.int i)
  | non : Kn H .non .none
  | tup {a : Addr} {x y : V} {d e : PyData} : H a = some (.tup [x, y]) → Kn H x d → Kn H y e → Kn H (.ref a) (.tuple [d, e])
/-- all tuples stand as they stood -/
def Tups (H H' : Hp) : Prop := ∀ a xs, H a = some (.tup xs) → H' a = some (.tup xs)
theorem Kn.mono {H H' : Hp} (s : Tups H H') : ∀ {v d}, Kn H v d → Kn H' v d
  | _, _, .int i => .int i
  | _, _, .non => .non
  | _, _, .tup h a b => .tup (s _ _ h) (a.mono s) (b.mono s)
theorem Kn.dp {K : PySem.W.Frag} {H : Hp} : ∀ {v d}, Kn H v d → Dp K H v d
  | _, _, .int i => .int i
  | _, _, .non => .non
  | _, _, .tup h a b => .tup (SqT.of h) (.cons a.dp (.cons b.dp .nil))
theorem Tups.same {H H' : Hp} (s : Same H H') : Tups H H' := fun a xs h => s _ _ h
theorem Tups.updL {H : Hp} {p : Addr} {xs : List V} {o : HO} (h : H p = some (.lst xs)) : Tups H (upd H p o) := fun a ys e => by
  rw [upd_ne (ne_of e h (fun q => by cases q))]
  exact e
theorem Tups.updD {H : Hp} {p : Addr} {kvs : List (List Key × V)} {o : HO} (h : H p = some (.dT kvs)) : Tups H (upd H p o) := fun a ys e => by
  rw [upd_ne (ne_of e h (fun q => by cases q))]
  exact e
theorem Tups.trans {H H1 H2 : Hp} (a : Tups H H1) (b : Tups H1 H2) : Tups H H2 := fun x xs h => b _ _ (a _ _ h)
inductive KnAll (H : Hp) : List V → List PyData → Prop
  | nil : KnAll H [] []
  | cons {v vs d ds} : Kn H v d → KnAll H vs ds → KnAll H (v :: vs) (d :: ds)
theorem KnAll.mono {H H' : Hp} (s : Tups H H') : ∀ {vs ds}, KnAll H vs ds → KnAll H' vs ds
  | _, _, .nil => .nil
  | _, _, .cons a b => .cons (a.mono s) (b.mono s)
theorem KnAll.len {H : Hp} : ∀ {vs ds}, KnAll H vs ds → vs.length = ds.length
  | _, _, .nil => rfl
  | _, _, .cons _ b => congrArg (· + 1) b.len
theorem KnAll.snoc {H : Hp} {v d} (k : Kn H v d) : ∀ {vs ds}, KnAll H vs ds → KnAll H (vs ++ [v]) (ds ++ [d])
  | _, _, .nil => .cons k .nil
  | _, _, .cons a b => .cons a (b.snoc k)
theorem KnAll.getD {H : Hp} : ∀ {vs ds} (t : Nat), KnAll H vs ds → Kn H (vs.getD t .non) (ds.getD t .none)
  | _, _, _, .nil => by simp; exact .non
  | _, _, 0, .cons a b => by simpa using a
  | _, _, t + 1, .cons a b => by simpa using b.getD t

/-! the mirror -/
def upf {α : Type} (f : Nat → α) (h : Nat) (x : α) : Nat → α := fun i => if i = h then x else f i
theorem upf_same {α : Type} {f : Nat → α} {h : Nat} {x : α} : upf f h x h = x := by unfold upf; rw [if_pos rfl]
theorem upf_ne {α : Type} {f : Nat → α} {h i : Nat} {x : α} (e : i ≠ h) : upf f h x i = f i := by unfold upf; rw [if_neg e]
theorem two_get {α : Type} (f : Nat → α) {h : Nat} (hh : h < 2) : [f 0, f 1][h]? = some (f h) := by
  rcases h with _ | _ | h
  · rfl
  · rfl
  · omega
theorem two_set {α : Type} (f : Nat → α) {h : Nat} (hh : h < 2) (x : α) : [f 0, f 1].set h x = [upf f h x 0, upf f h x 1] := by
  rcases h with _ | _ | h
  · rfl
  · rfl
  · omega
structure M where
  k : Nat → PyData
  c : Nat → List PyData
  l : Nat → Nat
def M.step (m : M) (h : Nat) : M :=
  if m.l h < (m.c h).length then { k := upf m.k h (.tuple [m.k h, (m.c (1 - h)).getD (m.l h) .none]), c := m.c, l := upf m.l h (m.l h + 1) }
  else { k := m.k, c := upf m.c h (m.c h ++ [m.k h]), l := m.l }
def M.run (m : M) (hs : List Nat) : M := hs.foldl M.step m
def M.done (m : M) (h : Nat) : Nat := m.l h + (m.c h).length
def M0 (a b : Int) : M := { k := fun h => if h = 0 then .int a else .int b, c := fun _ => [], l := fun _ => 0 }
def M.wf (m : M) : Prop := ∀ h < 2, (m.c h).length = m.l h ∨ (m.c h).length = m.l h + 1
theorem M.wf0 (a b : Int) : (M0 a b).wf := fun h _ => .inl rfl
theorem M.wf_step {m : M} (w : m.wf) {h : Nat} (hh : h < 2) : (m.step h).wf := fun i hi => by
  unfold M.step
  have wi := w i hi
  have wh := w h hh
  by_cases c : m.l h < (m.c h).length
  · rw [if_pos c]
    show (m.c i).length = upf m.l h (m.l h + 1) i ∨ (m.c i).length = upf m.l h (m.l h + 1) i + 1
    by_cases e : i = h
    · subst e; rw [upf_same]; omega
    · rw [upf_ne e]; exact wi
  · rw [if_neg c]
    show (upf m.c h (m.c h ++ [m.k h]) i).length = m.l i ∨ (upf m.c h (m.c h ++ [m.k h]) i).length = m.l i + 1
    by_cases e : i = h
    · subst e; rw [upf_same, List.length_append]; show _ + 1 = _ ∨ _ + 1 = _; omega
    · rw [upf_ne e]; exact wi
theorem M.done_step (m : M) (h i : Nat) : (m.step h).done i = m.done i + (if i = h then 1 else 0) := by
  unfold M.step M.done
  by_cases c : m.l h < (m.c h).length
  · rw [if_pos c]
    show upf m.l h (m.l h + 1) i + (m.c i).length = _
    by_cases e : i = h
    · subst e; rw [upf_same, if_pos rfl]; omega
    · rw [upf_ne e, if_neg e]; rfl
  · rw [if_neg c]
    show m.l i + (upf m.c h (m.c h ++ [m.k h]) i).length = _
    by_cases e : i = h
    · subst e; rw [upf_same, if_pos rfl, List.length_append]; show _ + (_ + 1) = _; omega
    · rw [upf_ne e, if_neg e]; rfl
theorem M.run_snoc (m : M) (hs : List Nat) (h : Nat) : m.run (hs ++ [h]) = (m.run hs).step h := by
  unfold M.run
  rw [List.foldl_append]
  rfl
theorem M.done_run (m : M) (i : Nat) : ∀ hs : List Nat, (m.run hs).done i = m.done i + hs.count i := by
  intro hs
  induction hs generalizing m with
  | nil => rfl
  | cons h r ih =>
    show ((m.step h).run r).done i = _
    rw [ih, M.done_step, List.count_cons]
    by_cases e : i = h
    · subst e; simp; omega
    · have e2 : ¬ h = i := fun q => e q.symm
      simp [e, e2]
theorem M.wf_run {m : M} (w : m.wf) : ∀ {hs : List Nat}, (∀ h ∈ hs, h < 2) → (m.run hs).wf := by
  intro hs
  induction hs generalizing m with
  | nil => intro _; exact w
  | cons h r ih => intro q; exact ih (M.wf_step w (q h List.mem_cons_self)) (fun x hx => q x (List.mem_cons_of_mem _ hx))
/-- data as they may be compared -/
def Ok (n : Nat) (d : PyData) : Prop := d.canLay0 = true ∧ d.depth ≤ n
theorem Ok.up {n m : Nat} {d : PyData} (h : Ok n d) (e : n ≤ m) : Ok m d := ⟨h.1, Nat.le_trans h.2 e⟩
theorem Ok.pair {n : Nat} {d e : PyData} (h : Ok n d) (g : Ok n e) : Ok (n + 1) (.tuple [d, e]) := by
  refine ⟨?_, ?_⟩
  · simp [PyData.canLay0, PyData.canLayAll0, h.1, g.1]
  · have h2 := h.2
    have g2 := g.2
    simp only [PyData.depth, PyData.depthAll]
    omega
theorem Ok.lst {n : Nat} {d e : PyData} (h : Ok n d) (g : Ok n e) : Ok (n + 1) (.list [d, e]) := by
  refine ⟨?_, ?_⟩
  · simp [PyData.canLay0, PyData.canLayAll0, h.1, g.1]
  · have h2 := h.2
    have g2 := g.2
    simp only [PyData.depth, PyData.depthAll]
    omega
theorem Ok.shaped {d : PyData} (h : Ok 64 d) : SeqAt.shaped d = true := by
  unfold SeqAt.shaped
  rw [h.1, decide_eq_true h.2]
  rfl
end TA

set_option Elab.async false
set_option maxRecDepth 100000
set_option maxHeartbeats 4000000
namespace TA
open PySem L2 PyProof.Rows
set_option linter.unusedVariables false
def M.ok (n : Nat) (m : M) : Prop := ∀ h < 2, Ok n (m.k h) ∧ ∀ d ∈ m.c h, Ok n d
theorem ok_int {n : Nat} (i : Int) (h : 0 < n) : Ok n (.int i) := ⟨rfl, by show PyData.depth (.int i) ≤ n; simp only [PyData.depth]; omega⟩
theorem ok_none {n : Nat} (h : 0 < n) : Ok n .none := ⟨rfl, by show PyData.depth .none ≤ n; simp only [PyData.depth]; omega⟩
theorem M.ok0 (a b : Int) : (M0 a b).ok 1 := fun h _ => ⟨by
  show Ok 1 (if h = 0 then .int a else .int b)
  split
  · exact ok_int a (by decide)
  · exact ok_int b (by decide), fun d hd => by cases hd⟩
theorem M.ok_step {n : Nat} {m : M} (o : m.ok n) (h0 : 0 < n) {h : Nat} (hh : h < 2) : (m.step h).ok (n + 1) := fun i hi => by
  unfold M.step
  by_cases c : m.l h < (m.c h).length
  · rw [if_pos c]
    refine ⟨?_, fun d hd => ((o i hi).2 d hd).up (by omega)⟩
    show Ok (n + 1) (upf m.k h _ i)
    by_cases e : i = h
    · subst e
      rw [upf_same]
      refine Ok.pair (o i hi).1 ?_
      cases g : (m.c (1 - i))[m.l i]? with
      | none => rw [List.getD_eq_getElem?_getD, g]; exact ok_none h0
      | some d => rw [List.getD_eq_getElem?_getD, g]; exact (o (1 - i) (by omega)).2 d (List.mem_of_getElem? g)
    · rw [upf_ne e]; exact (o i hi).1.up (by omega)
  · rw [if_neg c]
    refine ⟨(o i hi).1.up (by omega), fun d hd => ?_⟩
    have hd' : d ∈ upf m.c h (m.c h ++ [m.k h]) i := hd
    by_cases e : i = h
    · subst e
      rw [upf_same] at hd'
      rcases List.mem_append.mp hd' with q | q
      · exact ((o i hi).2 d q).up (by omega)
      · have : d = m.k i := by simpa using q
        rw [this]
        exact (o i hi).1.up (by omega)
    · rw [upf_ne e] at hd'; exact ((o i hi).2 d hd').up (by omega)
theorem M.ok_run {hs : List Nat} : ∀ {n : Nat} {m : M}, m.ok n → 0 < n → (∀ h ∈ hs, h < 2) → (m.run hs).ok (n + hs.length) := by
  induction hs with
  | nil => intro n m o _ _; exact o
  | cons h r ih =>
    intro n m o h0 q
    have := ih (M.ok_step o h0 (q h List.mem_cons_self)) (by omega) (fun x hx => q x (List.mem_cons_of_mem _ hx))
    rw [show n + 1 + r.length = n + (h :: r).length by rw [List.length_cons]; omega] at this
    exact this
def M.res (m : M) (deep : Nat) (h : Nat) : PyData := if m.done h = 2 * deep then m.k h else .none
theorem M.res_ok {n : Nat} {m : M} (o : m.ok n) (h0 : 0 < n) (deep : Nat) {h : Nat} (hh : h < 2) : Ok n (m.res deep h) := by
  unfold M.res
  split
  · exact (o h hh).1
  · exact ok_none h0
theorem M.stopped {m : M} (w : m.wf) {deep h : Nat} (hh : h < 2) (hd : m.done h ≤ 2 * deep) : m.l h = deep ↔ m.done h = 2 * deep := by
  have wh := w h hh
  unfold M.done at hd ⊢
  omega
/-- what is told: two places -/
def told (a b : Int) (hs : List Nat) (deep : Nat) : PyData := .list [((M0 a b).run hs).res deep 0, ((M0 a b).run hs).res deep 1]
theorem told_shaped (a b : Int) {hs : List Nat} (q : ∀ h ∈ hs, h < 2) (hz : hs.length ≤ 40) (deep : Nat) : SeqAt.shaped (told a b hs deep) = true := by
  have o := M.ok_run (M.ok0 a b) (by decide) q
  exact ((M.res_ok o (by omega) deep (h := 0) (by decide)).lst (M.res_ok o (by omega) deep (h := 1) (by decide))).up (by omega) |>.shaped
theorem eqv_self {d : PyData} (h : SeqAt.shaped d = true) : PyData.eqv d d = true := SeqAt.eqv_refl d (SeqAt.canLay_of_shaped h)

/-! a walk of n turns, whatever is walked: the word Pv is kept from turn to turn -/
theorem turns {J : It} (n : Nat) {H0 : Hp} {Qd : Hp → Prop} {B : (Hp → Prop) → V → Hp → Prop} (Pv : Nat → Hp → Prop) (start : Pv 0 H0) (last : ∀ H, Pv n H → J.stop n H ∧ Qd H)
    (turn : ∀ i H, i < n → Pv i H → J.go i H ∧ ∀ x H', J.yld i H x H' → B (Pv (i + 1)) x H') :
    ∃ W : Nat → Nat → Hp → Prop, (∃ m, W 0 m H0) ∧ ∀ i m H, W i m H →
      (J.stop i H ∧ Qd H) ∨ (J.go i H ∧ ∃ Nx : Hp → Prop, (∀ H', Nx H' → ∃ m', m' < m ∧ W (i + 1) m' H') ∧ ∀ x H', J.yld i H x H' → B Nx x H') := by
  refine ⟨fun i m H => i + m = n ∧ Pv i H, ⟨n, by omega, start⟩, fun i m H h => ?_⟩
  obtain ⟨hm, word⟩ := h
  cases m with
  | zero =>
    have hin : i = n := by omega
    rw [hin] at word ⊢
    exact Or.inl (last H word)
  | succ m =>
    obtain ⟨go, step⟩ := turn i H (by omega) word
    exact Or.inr ⟨go, Pv (i + 1), fun H' w' => ⟨m, by omega, by omega, w'⟩, step⟩
theorem list_turns {K : PySem.W.Frag} {a : Addr} {xs : List V} {H0 : Hp} {Qd : Hp → Prop} {B : (Hp → Prop) → V → Hp → Prop} (Pv : Nat → Hp → Prop) (start : Pv 0 H0) (still : ∀ i H, i ≤ xs.length → Pv i H → SqL K H a xs)
    (turn : ∀ i x H, xs[i]? = some x → Pv i H → B (Pv (i + 1)) x H) (last : ∀ H, Pv xs.length H → Qd H) :
    ∃ W : Nat → Nat → Hp → Prop, (∃ m, W 0 m H0) ∧ ∀ i m H, W i m H →
      ((Itl K a).stop i H ∧ Qd H) ∨ ((Itl K a).go i H ∧ ∃ Nx : Hp → Prop, (∀ H', Nx H' → ∃ m', m' < m ∧ W (i + 1) m' H') ∧ ∀ x H', (Itl K a).yld i H x H' → B Nx x H') :=
  turns xs.length Pv start (fun H w => ⟨⟨xs, still _ H (Nat.le_refl _) w, Nat.le_refl _⟩, last H w⟩) fun i H hi w =>
    have there := still i H (Nat.le_of_lt hi) w
    ⟨⟨xs, xs[i], there, List.getElem?_eq_getElem hi⟩, fun x H' ⟨same, given⟩ => by rw [same]; exact turn i x H (given xs there) w⟩
theorem tup_turns {K : PySem.W.Frag} {a : Addr} {xs : List V} {H0 : Hp} {Qd : Hp → Prop} {B : (Hp → Prop) → V → Hp → Prop} (Pv : Nat → Hp → Prop) (start : Pv 0 H0) (still : ∀ i H, i ≤ xs.length → Pv i H → SqT K H a xs)
    (turn : ∀ i x H, xs[i]? = some x → Pv i H → B (Pv (i + 1)) x H) (last : ∀ H, Pv xs.length H → Qd H) :
    ∃ W : Nat → Nat → Hp → Prop, (∃ m, W 0 m H0) ∧ ∀ i m H, W i m H →
      ((Itt K a).stop i H ∧ Qd H) ∨ ((Itt K a).go i H ∧ ∃ Nx : Hp → Prop, (∀ H', Nx H' → ∃ m', m' < m ∧ W (i + 1) m' H') ∧ ∀ x H', (Itt K a).yld i H x H' → B Nx x H') :=
  turns xs.length Pv start (fun H w => ⟨⟨xs, still _ H (Nat.le_refl _) w, Nat.le_refl _⟩, last H w⟩) fun i H hi w =>
    have there := still i H (Nat.le_of_lt hi) w
    ⟨⟨xs, xs[i], there, List.getElem?_eq_getElem hi⟩, fun x H' ⟨same, given⟩ => by rw [same]; exact turn i x H (given xs there) w⟩
theorem range_turns {lo : Int} {n : Nat} {H0 : Hp} {Qd : Hp → Prop} {B : (Hp → Prop) → V → Hp → Prop} (Pv : Nat → Hp → Prop) (start : Pv 0 H0)
    (turn : ∀ i H, i < n → Pv i H → B (Pv (i + 1)) (.int (lo + i)) H) (last : ∀ H, Pv n H → Qd H) :
    ∃ W : Nat → Nat → Hp → Prop, (∃ m, W 0 m H0) ∧ ∀ i m H, W i m H →
      ((Itr lo n).stop i H ∧ Qd H) ∨ ((Itr lo n).go i H ∧ ∃ Nx : Hp → Prop, (∀ H', Nx H' → ∃ m', m' < m ∧ W (i + 1) m' H') ∧ ∀ x H', (Itr lo n).yld i H x H' → B Nx x H') :=
  turns n Pv start (fun H w => ⟨Nat.le_refl _, last H w⟩) fun i H hi w => ⟨hi, fun x H' ⟨same, given⟩ => by rw [same, given]; exact turn i H hi w⟩
theorem small13 {n : Nat} (h : n ≤ 100000) : n ≤ sizeLine := Nat.le_trans h (by decide)

/-- xs[i] as an augmented assignment reads it, 0 ≤ i -/
theorem get_list {X : Cx} : PGet X (fun o i H Q => ∃ (p : Addr) (xs : List V) (k : Nat) (v : V), o = .ref p ∧ i = .int (k : Int) ∧ SqL X.K H p xs ∧ xs[k]? = some v ∧ Q v H) := by
  intro pins s σ H o i ov iv Q I ro ri h
  obtain ⟨p, xs, k, v, rfl, rfl, hq, he, q⟩ := h
  cases ro
  obtain ⟨t, rfl⟩ := ri
  obtain ⟨its, r, pl, hz⟩ := I.list hq
  obtain ⟨w, ew, rw'⟩ := r.get he
  have hl := r.length
  have hn := line63
  have hk : k < xs.length := (List.getElem?_eq_some_iff.mp he).1
  refine getItem_listL (l := its) pl.isList (by omega) ?_ (by simpa using ew) ⟨v, H, I, rw', q⟩
  omega
end TA

set_option Elab.async false
set_option maxRecDepth 100000
set_option maxHeartbeats 4000000
namespace TA
open PySem L2 PyProof.Rows
set_option linter.unusedVariables false
structure Txt2 (K : PySem.W.Frag) (mg : Str → Option Value) : Prop where
  two : ∃ t, mg "STEPS" = some (.int 2 t)
  five : ∃ t, mg "MOST_ROUNDS" = some (.int 5 t)
  hands : ∃ hA, mg "HANDS" = some (.ref hA) ∧ ∀ H, SqT K H hA [.int 0, .int 1]
structure Def (P : Program) (w : World) (K : PySem.W.Frag) (mg : Str → Option Value) (base : Heap) (x : Str) (ps : List Str) (k : Nat) (sp : Sp) (f : Addr) (fd : FuncData) : Prop where
  G : FnOk P w K mg base CX0 k f fd ps sp
  b : Binds K fd ps []
  k : PySem.W.keepIn K (.ref f) = true
  m : mg x = some (.ref f)
def spHand : Sp := fun vs H Q _ => ∃ a : Int, vs = [.int a] ∧ Q (.bl (decide (0 ≤ a ∧ a ≤ 1))) H
def spInputs : Sp := fun vs H Q _ => ∃ (t : Addr) (a b : Int), vs = [.ref t] ∧ H t = some (.tup [.int a, .int b]) ∧ 0 ≤ a ∧ 0 ≤ b ∧ ∀ H', Same H H' → Q (.bl true) H'
/-- the list of hands at p -/
def hl (hs : List Nat) : List V := hs.map fun h : Nat => V.int (h : Int)
def spWeaving (K : PySem.W.Frag) : Sp := fun vs H Q _ => ∃ (p : Addr) (hs : List Nat) (d : Nat), vs = [.ref p, .int (d : Int)] ∧ SqL K H p (hl hs) ∧ (∀ h ∈ hs, h < 2) ∧ (∀ h < 2, hs.count h ≤ 2 * d) ∧ hs.length ≤ 1000 ∧ ∀ H', Same H H' → Q (.bl true) H'
def spPut (K : PySem.W.Frag) : Sp := fun vs H Q _ => ∃ (c : Addr) (ws : List V) (t : Nat), vs = [.ref c, .int (t : Int)] ∧ SqL K H c ws ∧ Q (ws.getD t .non) H
theorem hl_ints (hs : List Nat) : hl hs = (hs.map fun h : Nat => (h : Int)).map V.int := by
  unfold hl
  rw [List.map_map]
  rfl
theorem hl_count (hs : List Nat) (h : Nat) : (hs.map fun h : Nat => (h : Int)).count (h : Int) = hs.count h := by
  induction hs with
  | nil => rfl
  | cons x r ih =>
    rw [List.map_cons, List.count_cons, List.count_cons, ih]
    by_cases e : x = h
    · subst e; simp
    · have : ¬ ((x : Int) = (h : Int)) := by omega
      simp [e, this]
theorem all_rep (n : Nat) : (List.replicate n true).all id = true := by
  induction n with
  | zero => rfl
  | succ n ih => rw [List.replicate_succ, List.all_cons, ih]; rfl
theorem rep_snoc (n : Nat) : ((List.replicate n true).map V.bl) ++ [V.bl true] = (List.replicate (n + 1) true).map V.bl := by
  rw [List.replicate_succ', List.map_append]
  rfl
section
variable {P : Program} {w : World} {K : PySem.W.Frag} {mg : Str → Option Value} {base : Heap}
theorem scHand : FnScope ["thing"] ["thing"] (defScope sHand) := ⟨rfl, rfl, rfl, by decide +kernel, rfl, by decide +kernel, by decide +kernel⟩
theorem ok_hand {f g : Addr} {fd gd : FuncData} (F : Fun K "is_hand" "is_hand" sHand f fd) (W : Def P w K mg base "is_whole_within" ["thing", "least", "most"] 2 spWithin g gd) : FnOk P w K mg base CX0 3 f fd ["thing"] spHand := by
  refine F.ok scHand (fun vs H Q E h => ?_) (fun cdv A outer s H vs Q E hr h => ?_)
  · obtain ⟨a, rfl, _⟩ := h
    rfl
  obtain ⟨a, rfl, q⟩ := h
  refine ⟨_, pss_one (ps_ret (pe_call W.G hr rfl W.m W.k W.b .nil pass0 (pa_cons (pv 0) (pa_cons pe_int (pa_cons pe_int pa_nil))))), ?_⟩
  exact ⟨_, rfl, a, 0, 1, rfl, q⟩
theorem scPut : FnScope ["cells", "at"] ["cells", "at"] (defScope sPut) := ⟨rfl, rfl, rfl, by decide +kernel, rfl, by decide +kernel, by decide +kernel⟩
theorem ok_put {f : Addr} {fd : FuncData} (F : Fun K "put_in" "put_in" sPut f fd) (T : Txt K mg) : FnOk P w K mg base CX0 1 f fd ["cells", "at"] (spPut K) := by
  refine F.ok scPut (fun vs H Q E h => ?_) (fun cdv A outer s H vs Q E hr h => ?_)
  · obtain ⟨c, ws, t, rfl, _⟩ := h
    rfl
  obtain ⟨c, ws, t, rfl, hS, q⟩ := h
  refine ⟨_, pss_one (ps_ret (pe_ifExp (pt_cmpR op_lt (pv 1) (pe_callB call_len_seq (by rfl) T.len PySem.boot_len (pa_cons (pv 0) pa_nil)) (nomark _)) (pe_ix ix_list (pv 0) (pv 1) (fun _ _ => rfl)) pe_non)), ?_⟩
  refine ⟨_, rfl, _, rfl, c, _, rfl, .inl hS, _, _, rfl, rfl, _, rfl, ?_⟩
  refine ite2 (fun c1 => ?_) (fun c1 => ?_)
  · have c2 : ((t : Nat) : Int) < ((ws.length : Nat) : Int) := of_decide_eq_true c1
    have ht : t < ws.length := by omega
    have e : ws.getD t .non = ws[t] := by rw [List.getD_eq_getElem?_getD, List.getElem?_eq_getElem ht]; rfl
    rw [e] at q
    exact ⟨_, rfl, _, rfl, c, _, _, _, rfl, rfl, hS, atI_nat (List.getElem?_eq_getElem ht), q⟩
  · have c2 : ¬ ((t : Nat) : Int) < ((ws.length : Nat) : Int) := of_decide_eq_false (Bool.eq_false_iff.mpr c1)
    have e : ws.getD t .non = .non := by rw [List.getD_eq_getElem?_getD, List.getElem?_eq_none (by omega)]; rfl
    rw [e] at q
    exact q
theorem scInputs : FnScope ["thing", "a"] ["thing"] (defScope sInputs) := ⟨rfl, rfl, rfl, by decide +kernel, rfl, by decide +kernel, by decide +kernel⟩
theorem ok_inputs {f g : Addr} {fd gd : FuncData} (F : Fun K "is_inputs" "is_inputs" sInputs f fd) (T : Txt K mg) (W : Def P w K mg base "is_whole" ["thing"] 1 spWhole g gd) : FnOk P w K mg base CX0 2 f fd ["thing"] spInputs := by
  refine F.ok scInputs (fun vs H Q E h => ?_) (fun cdv A outer s H vs Q E hr h => ?_)
  · obtain ⟨t, a, b, rfl, _⟩ := h
    rfl
  obtain ⟨t, a, b, rfl, ht, ha, hb, q⟩ := h
  have nd := scInputs.nd
  refine ⟨_, pss_one (ps_ret (pe_and (pe_callB call_isi (by rfl) T.isi boot_isinstance (pa_cons (pv 0) (pa_cons (pe_bltn (v := .ty "tuple") (by rfl) T.tuple boot_tuple rfl) pa_nil)))
    (pe_and (pe_cmpR op_eq (pe_callB call_len_seq (by rfl) T.len PySem.boot_len (pa_cons (pv 0) pa_nil)) pe_int (nomark _))
    (pe_one (pe_callB (cr_all rfl) (by rfl) T.all (by decide +kernel) (pa_cons
      (pe_lc (own := [("a", 1)]) (g := gName 1) (tt := tYes) (te := tAndV (tCall spWhole [] E0 (tCons (tVar 1) tNil)) (tOp (rI0 fun i j => .bl (decide (i ≥ j))) (tVar 1) (tC (.int 0)))) rfl nd (pi_tup (pv 0)) (blkOk_by (N := ["thing", "a"]) (sc := defScope sInputs) (by decide +kernel)) (fun _ _ _ _ _ => pg_name (i := 1) nd rfl (Or.inl rfl)) (fun _ _ _ _ _ => pts_nil)
        (fun _ _ _ _ _ => (by refine pe_and ?_ (pe_one ?_); (exact pe_call W.G hr rfl W.m W.k W.b .nil pass0 (pa_cons (pv 1) pa_nil)); (exact pe_cmpR op_ge (pv 1) pe_int (nomark _))))) pa_nil)))))), ?_⟩
  refine ⟨_, rfl, .ref t, .ty "tuple", _, _, true, rfl, .ty "tuple", .base (.tup ht), kit_ty (by decide +kernel), true, rfl, iteT ?_⟩
  refine ⟨_, rfl, t, _, rfl, .inr (SqT.of ht), rfl, true, rfl, iteT ?_⟩
  refine ⟨_, rfl, t, rfl, ⟨_, SqT.of ht⟩, fun D hD => ?_⟩
  have s0 := same_new hD (.lst [])
  refine tup_turns (xs := [V.int a, V.int b]) (fun i H' => Same H H' ∧ H' D = some (.lst ((List.replicate i true).map V.bl))) ⟨s0, upd_same⟩ (fun i H' _ h => SqT.of (h.1 _ _ ht)) ?_ ?_
  · rintro i x H' hx ⟨s1, h1⟩
    obtain ⟨z, rfl, hz⟩ : ∃ z : Int, x = .int z ∧ 0 ≤ z := by
      rcases i with _ | _ | i
      · exact ⟨a, by simpa using hx.symm, ha⟩
      · exact ⟨b, by simpa using hx.symm, hb⟩
      · simp at hx
    have hi : i < 2 := (List.getElem?_eq_some_iff.mp hx).1
    refine ⟨rfl, _, rfl, z, rfl, true, rfl, iteT ?_⟩
    refine ⟨_, rfl, _, _, rfl, rfl, _, h1, (by rw [List.length_map, List.length_replicate]; exact Nat.lt_of_lt_of_le hi (by decide)), fun b' o e => ?_, ?_⟩
    · rw [upd_ne (ne_of_none e hD)]
      exact s1 _ _ e
    · rw [upd_same]
      show some (HO.lst (_ ++ [V.bl (decide (z ≥ 0))])) = _
      rw [decide_eq_true (show z ≥ 0 from hz), rep_snoc]
  · rintro H' ⟨s1, h1⟩
    refine ⟨D, _, rfl, SqL.of h1, ?_⟩
    rw [all_rep]
    exact q _ s1
theorem scWeaving : FnScope ["thing", "rounds", "hand"] ["thing", "rounds"] (defScope sWeaving) := ⟨rfl, rfl, rfl, by decide +kernel, rfl, by decide +kernel, by decide +kernel⟩
theorem ok_weaving {f g : Addr} {fd gd : FuncData} (F : Fun K "is_weaving" "is_weaving" sWeaving f fd) (T : Txt K mg) (U : Txt2 K mg) (W : Def P w K mg base "is_hand" ["thing"] 3 spHand g gd) : FnOk P w K mg base CX0 4 f fd ["thing", "rounds"] (spWeaving K) := by
  refine F.ok scWeaving (fun vs H Q E h => ?_) (fun cdv A outer s H vs Q E hr h => ?_)
  · obtain ⟨p, hs, d, rfl, _⟩ := h
    rfl
  obtain ⟨p, hs, d, rfl, hS, hh, hc, hz, q⟩ := h
  obtain ⟨t2, m2⟩ := U.two
  obtain ⟨hA, mH, hH⟩ := U.hands
  have nd := scWeaving.nd
  have ty : TyX K H (.ref p) (.type "list") := by
    rcases hS with h | ⟨o, its, n, h1, h2, _⟩
    · rcases h with h | ⟨o, h⟩
      · exact .base (.lst h)
      · exact .base (.frz h)
    · exact .kList h1 h2
  refine ⟨_, pss_one (ps_ret (pe_and (pe_callB call_isi (by rfl) T.isi boot_isinstance (pa_cons (pv 0) (pa_cons (pe_bltn (v := .ty "list") (by rfl) T.list boot_list rfl) pa_nil)))
    (pe_and (pe_callB (cr_all rfl) (by rfl) T.all (by decide +kernel) (pa_cons
      (pe_lc (own := [("hand", 2)]) (g := gName 2) (tt := tYes) (te := tCall spHand [] E0 (tCons (tVar 2) tNil)) rfl nd (pi_list (pv 0)) (blkOk_by (N := ["thing", "rounds", "hand"]) (sc := defScope sWeaving) (by decide +kernel)) (fun _ _ _ _ _ => pg_name (i := 2) nd rfl (Or.inl rfl)) (fun _ _ _ _ _ => pts_nil)
        (fun _ _ _ _ _ => (by exact pe_call W.G hr rfl W.m W.k W.b .nil pass0 (pa_cons (pv 2) pa_nil)))) pa_nil))
    (pe_one (pe_callB (cr_all rfl) (by rfl) T.all (by decide +kernel) (pa_cons
      (pe_lc (own := [("hand", 2)]) (g := gName 2) (tt := tYes) (te := tOp (rI0 fun i j => .bl (decide (i ≤ j))) (tBM K "list" (rCntI K) (tVar 0) (tCons (tVar 2) tNil)) (tOp (rI CMul fun i j => .int (i * j)) (tC (.int 2)) (tVar 1))) rfl nd (pi_tup (pe_glob (v := .ref hA) rfl mH rfl)) (blkOk_by (N := ["thing", "rounds", "hand"]) (sc := defScope sWeaving) (by decide +kernel)) (fun _ _ _ _ _ => pg_name (i := 2) nd rfl (Or.inl rfl)) (fun _ _ _ _ _ => pts_nil)
        (fun _ _ _ _ _ => (by refine pe_cmpR op_le ?_ (pe_op op_mul ?_ (pv 1)) (nomark _); (exact pe_bm PySem.F.plainAttrs_list PySem.F.slot_list_count PySem.F.type_list_count mt_lcount (pv 0) (pa_cons (pv 2) pa_nil)); (exact pe_glob (v := .int 2) rfl m2 ⟨_, rfl⟩)))) pa_nil)))))), ?_⟩
  refine ⟨_, rfl, .ref p, .ty "list", _, _, true, rfl, .ty "list", ty, kit_ty (by decide +kernel), true, rfl, iteT ?_⟩
  refine ⟨_, rfl, p, rfl, ⟨_, hS⟩, fun D hD => ?_⟩
  have lenH : (hl hs).length = hs.length := List.length_map _
  refine list_turns (xs := hl hs) (fun i H' => Same H H' ∧ H' D = some (.lst ((List.replicate i true).map V.bl))) ⟨same_new hD _, upd_same⟩ (fun i H' _ h => h.1.seq hS) ?_ ?_
  · rintro i x H' hx ⟨s1, h1⟩
    have hi : i < (hl hs).length := (List.getElem?_eq_some_iff.mp hx).1
    obtain ⟨z, rfl, hz2⟩ : ∃ z : Nat, x = .int (z : Int) ∧ z < 2 := by
      unfold hl at hx
      rw [List.getElem?_map] at hx
      obtain ⟨z, e1, e2⟩ := Option.map_eq_some_iff.mp hx
      exact ⟨z, e2.symm, hh z (List.mem_of_getElem? e1)⟩
    have e1 : decide ((0 : Int) ≤ (z : Int) ∧ (z : Int) ≤ 1) = true := decide_eq_true (by omega)
    refine ⟨rfl, _, rfl, (z : Int), rfl, _, h1, (by rw [List.length_map, List.length_replicate]; exact Nat.lt_of_lt_of_le hi (by rw [lenH]; exact Nat.le_trans hz (by decide))), fun b' o e => ?_, ?_⟩
    · rw [upd_ne (ne_of_none e hD)]
      exact s1 _ _ e
    · rw [upd_same, e1, rep_snoc]
  · rintro H1 ⟨s1, h1⟩
    refine ⟨D, _, rfl, SqL.of h1, ?_⟩
    rw [all_rep]
    refine ⟨true, rfl, iteT ?_⟩
    refine ⟨hA, rfl, ⟨_, hH _⟩, fun D2 hD2 => ?_⟩
    refine tup_turns (xs := [V.int 0, V.int 1]) (fun i H' => Same H1 H' ∧ H' D2 = some (.lst ((List.replicate i true).map V.bl))) ⟨same_new hD2 _, upd_same⟩ (fun i H' _ h => hH _) ?_ ?_
    · rintro i x H' hx ⟨s2, h2⟩
      have hi : i < 2 := (List.getElem?_eq_some_iff.mp hx).1
      obtain ⟨z, rfl, hz2⟩ : ∃ z : Nat, x = .int (z : Int) ∧ z < 2 := by
        rcases i with _ | _ | i
        · exact ⟨0, by simpa using hx.symm, by decide⟩
        · exact ⟨1, by simpa using hx.symm, by decide⟩
        · simp at hx
      have hS2 := s2.seq (s1.seq hS)
      have cz := hc z hz2
      rw [← hl_count, ] at cz
      refine ⟨rfl, _, rfl, ?_, _, rfl, p, hs.map fun h : Nat => (h : Int), (z : Int), rfl, rfl, by rw [← hl_ints]; exact hS2, _, rfl, _, _, rfl, rfl, .inl ⟨by decide, by decide⟩, _, _, rfl, rfl, _, h2, (by rw [List.length_map, List.length_replicate]; exact Nat.lt_of_lt_of_le hi (by decide)), fun b' o e => ?_, ?_⟩
      · exact .inl ⟨rfl, _, hS2⟩
      · rw [upd_ne (ne_of_none e hD2)]
        exact s2 _ _ e
      · rw [upd_same]
        show some (HO.lst (_ ++ [V.bl (decide ((((hs.map fun h : Nat => (h : Int)).count (z : Int) : Nat) : Int) ≤ 2 * (d : Int)))])) = _
        rw [decide_eq_true (by omega), rep_snoc]
    · rintro H2 ⟨s2, h2⟩
      refine ⟨D2, _, rfl, SqL.of h2, ?_⟩
      rw [all_rep]
      exact q _ (s1.trans s2)
end
end TA

set_option Elab.async false
set_option maxRecDepth 100000
set_option maxHeartbeats 4000000
namespace TA
open PySem L2 PyProof.Rows
set_option linter.unusedVariables false
theorem ixN_two {h : Nat} (hh : h < 2) : ixN 2 (h : Int) = some h := by
  rcases h with _ | _ | h
  · rfl
  · rfl
  · omega
theorem at_two {α : Type} (f : Nat → α) {h : Nat} (hh : h < 2) : atI [f 0, f 1] (h : Int) = some (f h) := atI_nat (two_get f hh)
theorem same_upd {H0 H : Hp} {p : Addr} {o : HO} (s : Same H0 H) (f : H0 p = none) : Same H0 (upd H p o) := fun b u e => by
  rw [upd_ne (ne_of_none e f)]
  exact s _ _ e
structure KS (H0 H : Hp) (kn ce lo : Addr) (cs : Nat → Addr) (m : M) : Prop where
  same : Same H0 H
  f1 : H0 kn = none
  f2 : H0 ce = none
  f3 : H0 lo = none
  f4 : ∀ h < 2, H0 (cs h) = none
  n1 : kn ≠ ce
  n2 : kn ≠ lo
  n3 : ∀ h < 2, kn ≠ cs h
  n4 : ce ≠ lo
  n5 : ∀ h < 2, ce ≠ cs h
  n6 : ∀ h < 2, lo ≠ cs h
  n7 : cs 0 ≠ cs 1
  hk : ∃ v : Nat → V, H kn = some (.lst [v 0, v 1]) ∧ ∀ h < 2, Kn H (v h) (m.k h)
  he : H ce = some (.lst [.ref (cs 0), .ref (cs 1)])
  ho : H lo = some (.lst [.int (m.l 0 : Nat), .int (m.l 1 : Nat)])
  hc : ∀ h < 2, ∃ ws, H (cs h) = some (.lst ws) ∧ KnAll H ws (m.c h)
theorem cs_ne {cs : Nat → Addr} (n : cs 0 ≠ cs 1) {i h : Nat} (hi : i < 2) (hh : h < 2) (e : i ≠ h) : cs i ≠ cs h := by
  rcases i with _ | _ | i
  · rcases h with _ | _ | h
    · exact absurd rfl e
    · exact n
    · omega
  · rcases h with _ | _ | h
    · exact n.symm
    · exact absurd rfl e
    · omega
  · omega
theorem KS.put {H0 H : Hp} {kn ce lo : Addr} {cs : Nat → Addr} {m : M} (S : KS H0 H kn ce lo cs m) {h : Nat} (hh : h < 2) (c : ¬ m.l h < (m.c h).length) {ws : List V} {v : V} (hw : H (cs h) = some (.lst ws)) (ha : KnAll H ws (m.c h)) (hv : Kn H v (m.k h)) :
    KS H0 (upd H (cs h) (.lst (ws ++ [v]))) kn ce lo cs (m.step h) := by
  have es : m.step h = { k := m.k, c := upf m.c h (m.c h ++ [m.k h]), l := m.l } := by unfold M.step; rw [if_neg c]
  rw [es]
  have tu : Tups H (upd H (cs h) (.lst (ws ++ [v]))) := Tups.updL hw
  obtain ⟨vs, hk, hkn⟩ := S.hk
  refine { S with same := same_upd S.same (S.f4 h hh), hk := ⟨vs, ?_, fun i hi => (hkn i hi).mono tu⟩, he := ?_, ho := ?_, hc := fun i hi => ?_ }
  · rw [upd_ne (S.n3 h hh)]; exact hk
  · rw [upd_ne (S.n5 h hh)]; exact S.he
  · rw [upd_ne (S.n6 h hh)]; exact S.ho
  · by_cases e : i = h
    · subst e
      refine ⟨_, upd_same, ?_⟩
      show KnAll _ _ (upf m.c i (m.c i ++ [m.k i]) i)
      rw [upf_same]
      exact (ha.mono tu).snoc (hv.mono tu)
    · obtain ⟨ws2, h1, h2⟩ := S.hc i hi
      refine ⟨ws2, by rw [upd_ne (cs_ne S.n7 hi hh e)]; exact h1, ?_⟩
      show KnAll _ _ (upf m.c h (m.c h ++ [m.k h]) i)
      rw [upf_ne e]
      exact h2.mono tu
theorem KS.look {H0 H : Hp} {kn ce lo : Addr} {cs : Nat → Addr} {m : M} (S : KS H0 H kn ce lo cs m) {h : Nat} (hh : h < 2) (c : m.l h < (m.c h).length) {v : Nat → V} {w : V} {q : Addr} (hk : H kn = some (.lst [v 0, v 1])) (hkn : ∀ h < 2, Kn H (v h) (m.k h)) (hw : Kn H w ((m.c (1 - h)).getD (m.l h) .none)) (hq : H q = none) :
    KS H0 (upd (upd (upd H q (.tup [v h, w])) kn (.lst [upf v h (.ref q) 0, upf v h (.ref q) 1])) lo (.lst [.int (upf m.l h (m.l h + 1) 0 : Nat), .int (upf m.l h (m.l h + 1) 1 : Nat)])) kn ce lo cs (m.step h) := by
  have es : m.step h = { k := upf m.k h (.tuple [m.k h, (m.c (1 - h)).getD (m.l h) .none]), c := m.c, l := upf m.l h (m.l h + 1) } := by unfold M.step; rw [if_pos c]
  rw [es]
  have qk : kn ≠ q := ne_of_none hk hq
  have qe : ce ≠ q := ne_of_none S.he hq
  have ql : lo ≠ q := ne_of_none S.ho hq
  have t1 : Tups H (upd H q (.tup [v h, w])) := Tups.same (same_new hq _)
  have t2 : Tups H (upd (upd H q (.tup [v h, w])) kn (.lst [upf v h (.ref q) 0, upf v h (.ref q) 1])) := t1.trans (Tups.updL (by rw [upd_ne qk]; exact hk))
  have t3 : Tups H (upd (upd (upd H q (.tup [v h, w])) kn (.lst [upf v h (.ref q) 0, upf v h (.ref q) 1])) lo (.lst [.int (upf m.l h (m.l h + 1) 0 : Nat), .int (upf m.l h (m.l h + 1) 1 : Nat)])) := t2.trans (Tups.updL (by rw [upd_ne S.n2.symm, upd_ne ql]; exact S.ho))
  have hq3 : (upd (upd (upd H q (.tup [v h, w])) kn (.lst [upf v h (.ref q) 0, upf v h (.ref q) 1])) lo (.lst [.int (upf m.l h (m.l h + 1) 0 : Nat), .int (upf m.l h (m.l h + 1) 1 : Nat)])) q = some (.tup [v h, w]) := by
    rw [upd_ne ql.symm, upd_ne qk.symm, upd_same]
  refine { S with same := same_upd (same_upd (S.same.trans (same_new hq _)) S.f1) S.f3, hk := ⟨upf v h (.ref q), ?_, fun i hi => ?_⟩, he := ?_, ho := upd_same, hc := fun i hi => ?_ }
  · rw [upd_ne S.n2, upd_same]
  · show Kn _ (upf v h (.ref q) i) (upf m.k h (.tuple [m.k h, (m.c (1 - h)).getD (m.l h) .none]) i)
    by_cases e : i = h
    · subst e
      rw [upf_same, upf_same]
      exact .tup hq3 ((hkn i hi).mono t3) (hw.mono t3)
    · rw [upf_ne e, upf_ne e]
      exact (hkn i hi).mono t3
  · rw [upd_ne S.n4, upd_ne S.n1.symm, upd_ne qe]; exact S.he
  · obtain ⟨ws2, h1, h2⟩ := S.hc i hi
    exact ⟨ws2, by rw [upd_ne (S.n6 i hi).symm, upd_ne (S.n3 i hi).symm, upd_ne (ne_of_none h1 hq)]; exact h1, h2.mono t3⟩
/-- the answer of known (and of _law_behind) -/
def spTold (vs0 : List V → Hp → Addr → List Nat → Nat → Int → Int → Prop) : Sp := fun vs H Q _ => ∃ (p : Addr) (hs : List Nat) (d : Nat) (a b : Int), vs0 vs H p hs d a b ∧ (∀ h ∈ hs, h < 2) ∧ (∀ h < 2, hs.count h ≤ 2 * d) ∧ hs.length ≤ 40 ∧ d ≤ 5 ∧ 0 ≤ a ∧ 0 ≤ b ∧
  ∀ (o : Addr) (v : Nat → V) (H' : Hp), Same H H' → H o = none → H' o = some (.lst [v 0, v 1]) → (∀ h < 2, Kn H' (v h) (((M0 a b).run hs).res d h)) → Q (.ref o) H'
def spKnown (K : PySem.W.Frag) : Sp := spTold fun vs H p hs d a b => ∃ t, vs = [.ref t, .ref p, .int (d : Int)] ∧ H t = some (.tup [.int a, .int b]) ∧ SqL K H p (hl hs)
theorem nat_two {x : V} {i : Nat} (hx : ([V.int 0, V.int 1] : List V)[i]? = some x) : x = .int ((i : Nat) : Int) ∧ i < 2 := by
  rcases i with _ | _ | i
  · exact ⟨by simpa using hx.symm, by decide⟩
  · exact ⟨by simpa using hx.symm, by decide⟩
  · simp at hx
theorem hl_at {hs : List Nat} {i : Nat} {x : V} (hx : (hl hs)[i]? = some x) : ∃ z : Nat, x = .int (z : Int) ∧ hs[i]? = some z := by
  unfold hl at hx
  rw [List.getElem?_map] at hx
  obtain ⟨z, e1, e2⟩ := Option.map_eq_some_iff.mp hx
  exact ⟨z, e2.symm, e1⟩
end TA

set_option Elab.async false
set_option maxRecDepth 100000
set_option maxHeartbeats 4000000
namespace TA
open PySem L2 PyProof.Rows
set_option linter.unusedVariables false
theorem upf_map {α β : Type} (f : α → β) (g : Nat → α) (h : Nat) (x : α) (i : Nat) : upf (fun j => f (g j)) h (f x) i = f (upf g h x i) := by
  unfold upf
  by_cases e : i = h
  · rw [if_pos e, if_pos e]
  · rw [if_neg e, if_neg e]
theorem ints_set (l : Nat → Nat) {h : Nat} (hh : h < 2) (n : Nat) : ([.int (l 0 : Nat), .int (l 1 : Nat)] : List V).set h (.int (n : Int)) = [.int (upf l h n 0 : Nat), .int (upf l h n 1 : Nat)] := by
  have := two_set (fun j => V.int (l j : Nat)) hh (V.int (n : Int))
  rw [upf_map (fun n : Nat => V.int (n : Int)) l h n 0, upf_map (fun n : Nat => V.int (n : Int)) l h n 1] at this
  exact this
def outs (m : M) (d : Nat) (v : Nat → V) (h : Nat) : V := if m.l h = d then v h else .non
theorem int_eq {a b : Nat} : (V.int (a : Int) = V.int (b : Int)) ↔ a = b := ⟨fun e => by injection e with e; omega, fun e => by rw [e]⟩
section
variable {P : Program} {w : World} {K : PySem.W.Frag} {mg : Str → Option Value} {base : Heap}
abbrev nKnown : List Str := ["inputs", "weaving", "rounds", "knows", "cells", "looks", "hand"]
theorem scKnown : FnScope nKnown ["inputs", "weaving", "rounds"] (defScope sKnown) := ⟨rfl, rfl, rfl, by decide +kernel, rfl, by decide +kernel, by decide +kernel⟩
theorem ok_known {f g1 g2 g3 g4 : Addr} {fd d1 d2 d3 d4 : FuncData} (F : Fun K "known" "known" sKnown f fd) (T : Txt K mg) (U : Txt2 K mg) (W1 : Def P w K mg base "is_whole_within" ["thing", "least", "most"] 2 spWithin g1 d1)
    (W2 : Def P w K mg base "is_inputs" ["thing"] 2 spInputs g2 d2) (W3 : Def P w K mg base "is_weaving" ["thing", "rounds"] 4 (spWeaving K) g3 d3) (W4 : Def P w K mg base "put_in" ["cells", "at"] 1 (spPut K) g4 d4) :
    FnOk P w K mg base CX0 5 f fd ["inputs", "weaving", "rounds"] (spKnown K) := by
  refine F.ok scKnown (fun vs H Q E h => ?_) (fun cdv A outer s H vs Q E hr h => ?_)
  · obtain ⟨p, hs, d, a, b, ⟨t, rfl, _⟩, _⟩ := h
    rfl
  obtain ⟨p, hs, d, a, b, ⟨t, rfl, ht, hS⟩, hh, hc, hz, hd, ha, hb, q⟩ := h
  obtain ⟨t5, m5⟩ := U.five
  obtain ⟨hA, mH, hH⟩ := U.hands
  have nd := scKnown.nd
  refine ⟨_, pss_cons (ps_if (pt_not (pt_val (pe_call W1.G (hr.mono (by decide)) rfl W1.m W1.k W1.b .nil pass0 (pa_cons (pv 2) (pa_cons pe_int (pa_cons (pe_glob (v := .int 5) rfl m5 ⟨_, rfl⟩) pa_nil)))))) pss_never pss_nil)
    (pss_cons (ps_if (pt_not (pt_val (pe_call W2.G (hr.mono (by decide)) rfl W2.m W2.k W2.b .nil pass0 (pa_cons (pv 0) pa_nil)))) pss_never pss_nil)
    (pss_cons (ps_if (pt_not (pt_val (pe_call W3.G (hr.mono (by decide)) rfl W3.m W3.k W3.b .nil pass0 (pa_cons (pv 1) (pa_cons (pv 2) pa_nil))))) pss_never pss_nil)
    (pss_cons (ps_set (i := 3) nd rfl (Or.inr rfl) (pe_callTy call_list_of (by rfl) T.list boot_list (pa_cons (pv 0) pa_nil)))
    (pss_cons (ps_set (i := 4) nd rfl (Or.inl rfl) (pe_lst (pa_cons (pe_lst pa_nil) (pa_cons (pe_lst pa_nil) pa_nil))))
    (pss_cons (ps_set (i := 5) nd rfl (Or.inr rfl) (pe_lst (pa_cons pe_int (pa_cons pe_int pa_nil))))
    (pss_cons (ps_for PassesOwn.never rfl (pi_list (pv 1)) (pg_name (i := 6) nd rfl (Or.inl rfl))
      (pss_one (ps_if (pt_cmpR op_gt (pe_callB call_len_seq (by rfl) T.len PySem.boot_len (pa_cons (pe_ix ix_list (pv 4) (pv 6) (fun _ _ => rfl)) pa_nil)) (pe_ix ix_list (pv 5) (pv 6) (fun _ _ => rfl)) (nomark _))
        (pss_cons (ps_asg (pe_tup (pa_cons (pe_ix ix_list (pv 3) (pv 6) (fun _ _ => rfl)) (pa_cons (pe_call W4.G (hr.mono (by decide)) rfl W4.m W4.k W4.b .nil pass0 (pa_cons (pe_ix ix_list (pv 4) (pe_op op_sub pe_int (pv 6)) (fun _ _ => rfl)) (pa_cons (pe_ix ix_list (pv 5) (pv 6) (fun _ _ => rfl)) pa_nil))) pa_nil))) (pg_sub (pv 3) (pv 6) set_list))
          (pss_one (ps_augS (pv 5) (pv 6) get_list pe_int ip_add set_list)))
        (pss_one (ps_expr (pe_bm PySem.F.plainAttrs_list PySem.F.slot_list_append PySem.F.type_list_append mt_append (pe_ix ix_list (pv 4) (pv 6) (fun _ _ => rfl)) (pa_cons (pe_ix ix_list (pv 3) (pv 6) (fun _ _ => rfl)) pa_nil)))))))
    (pss_one (ps_ret (pe_lc (own := [("hand", 6)]) (g := gName 6) (tt := tYes) (te := tIf (tTest (tOp rEq (tOp (rIxL K) (tVar 5) (tVar 6)) (tVar 2))) (tOp (rIxL K) (tVar 3) (tVar 6)) (tC .non)) rfl nd (pi_tup (pe_glob (v := .ref hA) rfl mH rfl)) (blkOk_by (N := nKnown) (sc := defScope sKnown) (by decide +kernel)) (fun _ _ _ _ _ => pg_name (i := 6) nd rfl (Or.inl rfl)) (fun _ _ _ _ _ => pts_nil)
      (fun _ _ _ _ _ => (by refine pe_ifExp ?_ ?_ pe_non; (refine pt_cmpR op_eq ?_ (pv 2) (nomark _); exact pe_ix ix_list (pv 5) (pv 6) (fun _ _ => rfl)); (exact pe_ix ix_list (pv 3) (pv 6) (fun _ _ => rfl))))))))))))), ?_⟩
  have e5 : decide ((0 : Int) ≤ (d : Int) ∧ (d : Int) ≤ 5) = true := decide_eq_true (by omega)
  refine ⟨_, rfl, (d : Int), 0, 5, rfl, true, congrArg V.bl e5, iteF ?_⟩
  refine ⟨_, rfl, t, a, b, rfl, ht, ha, hb, fun H1 s1 => ⟨true, rfl, iteF ?_⟩⟩
  refine ⟨_, rfl, _, rfl, p, hs, d, rfl, s1.seq hS, hh, hc, by omega, fun H2 s2 => ⟨true, rfl, iteF ?_⟩⟩
  have s12 := s1.trans s2
  refine ⟨_, rfl, t, _, rfl, .inr (SqT.of (s12 _ _ ht)), fun kn hkn => ?_⟩
  refine ⟨Nat.zero_le _, fun c0 hc0 => ⟨Nat.zero_le _, fun c1 hc1 => ⟨(by show 2 ≤ sizeLine; decide), fun ce hce => ?_⟩⟩⟩
  refine ⟨(by show 2 ≤ sizeLine; decide), fun lo hlo => ?_⟩
  have sa := same_new hkn (.lst [V.int a, V.int b])
  have sb := sa.trans (same_new hc0 (.lst []))
  have sc := sb.trans (same_new hc1 (.lst []))
  have sd := sc.trans (same_new hce (.lst [V.ref c0, V.ref c1]))
  have se := sd.trans (same_new hlo (.lst [V.int 0, V.int 0]))
  have K0 : KS H2 (upd (upd (upd (upd (upd H2 kn (.lst [V.int a, V.int b])) c0 (.lst [])) c1 (.lst [])) ce (.lst [V.ref c0, V.ref c1])) lo (.lst [V.int 0, V.int 0])) kn ce lo (fun i => if i = 0 then c0 else c1) (M0 a b) := by
    have q1 := upd_same (H := H2) (a := kn) (o := .lst [V.int a, V.int b])
    have q2 := upd_same (H := upd H2 kn (.lst [V.int a, V.int b])) (a := c0) (o := .lst [])
    have q3 := upd_same (H := upd (upd H2 kn (.lst [V.int a, V.int b])) c0 (.lst [])) (a := c1) (o := .lst [])
    have q4 := upd_same (H := upd (upd (upd H2 kn (.lst [V.int a, V.int b])) c0 (.lst [])) c1 (.lst [])) (a := ce) (o := .lst [V.ref c0, V.ref c1])
    have b2 := same_new hc0 (.lst [])
    have b3 := same_new hc1 (.lst [])
    have b4 := same_new hce (.lst [V.ref c0, V.ref c1])
    have b5 := same_new hlo (.lst [V.int 0, V.int 0])
    have two : ∀ {R : Addr → Prop}, R c0 → R c1 → ∀ h < 2, R ((fun i : Nat => if i = 0 then c0 else c1) h) := fun r0 r1 h hh => by
      rcases h with _ | _ | h
      · exact r0
      · exact r1
      · omega
    refine { same := se, f1 := hkn, f2 := sc.free hce, f3 := sd.free hlo, f4 := two (R := fun c => H2 c = none) (sa.free hc0) (sb.free hc1), n1 := ne_of_none (b3 _ _ (b2 _ _ q1)) hce, n2 := ne_of_none (b4 _ _ (b3 _ _ (b2 _ _ q1))) hlo, n3 := two (R := fun c => kn ≠ c) (ne_of_none q1 hc0) (ne_of_none (b2 _ _ q1) hc1), n4 := ne_of_none q4 hlo, n5 := two (R := fun c => ce ≠ c) (ne_of_none (b3 _ _ q2) hce).symm (ne_of_none q3 hce).symm, n6 := two (R := fun c => lo ≠ c) (ne_of_none (b4 _ _ (b3 _ _ q2)) hlo).symm (ne_of_none (b4 _ _ q3) hlo).symm, n7 := ne_of_none q2 hc1, hk := ⟨fun i => if i = 0 then .int a else .int b, b5 _ _ (b4 _ _ (b3 _ _ (b2 _ _ q1))), fun h hh => ?_⟩, he := b5 _ _ q4, ho := upd_same, hc := ?_ }
    · rcases h with _ | _ | h
      · exact .int a
      · exact .int b
      · omega
    · intro h hh
      rcases h with _ | _ | h
      · exact ⟨[], b5 _ _ (b4 _ _ (b3 _ _ q2)), .nil⟩
      · exact ⟨[], b5 _ _ (b4 _ _ q3), .nil⟩
      · omega
  generalize (fun i : Nat => if i = 0 then c0 else c1) = cs at K0
  have lenH : (hl hs).length = hs.length := List.length_map _
  refine ⟨_, rfl, p, rfl, ⟨_, (s12.trans se).seq hS⟩, for_list (K := K) (a := p) (xs := hl hs) (fun i σ Hc => ∃ g, σ = [some (.ref t), some (.ref p), some (.int (d : Int)), some (.ref kn), some (.ref ce), some (.ref lo), g] ∧ KS H2 Hc kn ce lo cs ((M0 a b).run (hs.take i))) ⟨none, rfl, K0⟩ ?_ ?_ ?_⟩
  · rintro i σ Hc _ ⟨g, _, S⟩
    exact (s12.trans S.same).seq hS
  · rintro i x σ Hc hx ⟨g, rfl, S⟩
    obtain ⟨z, rfl, hz1⟩ := hl_at hx
    have hz2 : z < 2 := hh z (List.mem_of_getElem? hz1)
    have er : (M0 a b).run (hs.take (i + 1)) = ((M0 a b).run (hs.take i)).step z := by
      rw [List.take_add_one, hz1]
      exact M.run_snoc _ _ _
    rw [er]
    have hdn : ((M0 a b).run (hs.take i)).done z ≤ 40 := by
      rw [M.done_run]
      have h1 := List.count_le_length (a := z) (l := hs.take i)
      rw [List.length_take] at h1
      show 0 + 0 + _ ≤ 40
      omega
    generalize (M0 a b).run (hs.take i) = m at S hdn ⊢
    obtain ⟨v, hk, hkn'⟩ := S.hk
    obtain ⟨ws, hw, hwa⟩ := S.hc z hz2
    have hwl := hwa.len
    have he2 := at_two (fun i => V.ref (cs i)) hz2
    have ho2 := at_two (fun i => V.int ((m.l i : Nat) : Int)) hz2
    refine ⟨_, rfl, _, rfl, ce, _, _, _, rfl, rfl, SqL.of S.he, he2, cs z, ws, rfl, .inl (SqL.of hw), _, rfl, _, rfl, lo, _, _, _, rfl, rfl, SqL.of S.ho, ho2, _, _, rfl, rfl, _, rfl, ?_⟩
    refine ite2 (fun c1 => ?_) (fun c1 => ?_)
    · have c2 : ((m.l z : Nat) : Int) < ((ws.length : Nat) : Int) := of_decide_eq_true c1
      have c3 : m.l z < (m.c z).length := by omega
      obtain ⟨ws2, hw2, hwa2⟩ := S.hc (1 - z) (by omega)
      have he3 : atI [V.ref (cs 0), V.ref (cs 1)] ((1 : Int) - (z : Int)) = some (.ref (cs (1 - z))) := by
        rw [show (1 : Int) - (z : Int) = ((1 - z : Nat) : Int) by omega]
        exact at_two (fun i => V.ref (cs i)) (by omega)
      refine ⟨_, rfl, _, rfl, kn, _, _, _, rfl, rfl, SqL.of hk, at_two v hz2, _, rfl, _, rfl, _, _, rfl, rfl, ce, _, _, _, rfl, rfl, SqL.of S.he, he3, _, rfl, _, rfl, lo, _, _, _, rfl, rfl, SqL.of S.ho, ho2, cs (1 - z), ws2, m.l z, rfl, SqL.of hw2, (by show 2 ≤ sizeLine; decide), fun q0 hq0 => ?_⟩
      have n1 := ne_of_none hk hq0
      have n2 := ne_of_none S.ho hq0
      refine ⟨_, rfl, _, rfl, kn, [v 0, v 1], _, z, rfl, rfl, by rw [upd_ne n1]; exact hk, ixN_two hz2, ?_⟩
      have ho3 : (upd (upd Hc q0 (.tup [v z, ws2.getD (m.l z) .non])) kn (.lst ([v 0, v 1].set z (.ref q0)))) lo = some (.lst [.int (m.l 0 : Nat), .int (m.l 1 : Nat)]) := by
        rw [upd_ne S.n2.symm, upd_ne n2]
        exact S.ho
      refine ⟨_, rfl, _, rfl, lo, _, z, _, rfl, rfl, SqL.of ho3, two_get (fun i => V.int ((m.l i : Nat) : Int)) hz2, _, _, rfl, rfl, lo, [.int (m.l 0 : Nat), .int (m.l 1 : Nat)], _, z, rfl, rfl, ho3, ixN_two hz2, ?_⟩
      refine ⟨_, rfl, ?_⟩
      have r := S.look hz2 c3 hk hkn' (hwa2.getD (m.l z)) hq0
      rw [← two_set v hz2, ← ints_set m.l hz2] at r
      exact r
    · have c2 : ¬ ((m.l z : Nat) : Int) < ((ws.length : Nat) : Int) := of_decide_eq_false (Bool.eq_false_iff.mpr c1)
      have c3 : ¬ m.l z < (m.c z).length := by omega
      have hsz : ws.length < sizeLine := by
        unfold M.done at hdn
        exact Nat.lt_of_le_of_lt (show ws.length ≤ 40 by omega) (by decide)
      refine ⟨_, rfl, _, rfl, ce, _, _, _, rfl, rfl, SqL.of S.he, he2, .inl ⟨rfl, _, SqL.of hw⟩, _, rfl, _, rfl, kn, _, _, _, rfl, rfl, SqL.of hk, at_two v hz2, cs z, ws, _, rfl, rfl, hw, hsz, ?_⟩
      exact ⟨_, rfl, S.put hz2 c3 hw hwa (hkn' z hz2)⟩
  · rintro σ Hc ⟨g, rfl, S⟩
    rw [lenH, List.take_length] at S
    have wf := M.wf_run (M.wf0 a b) hh
    have dn : ∀ h < 2, ((M0 a b).run hs).done h ≤ 2 * d := fun h h2 => by
      rw [M.done_run]
      have := hc h h2
      show 0 + 0 + _ ≤ _
      omega
    generalize (M0 a b).run hs = m at S wf dn q ⊢
    obtain ⟨v, hk, hkn'⟩ := S.hk
    refine ⟨hA, rfl, ⟨_, hH _⟩, fun D hD => ?_⟩
    refine tup_turns (xs := [V.int 0, V.int 1]) (fun i H' => Same Hc H' ∧ H' D = some (.lst ([outs m d v 0, outs m d v 1].take i))) ⟨same_new hD _, upd_same⟩ (fun i H' _ h => hH _) ?_ ?_
    · rintro i x H' hx ⟨s3, h3⟩
      obtain ⟨rfl, hi⟩ := nat_two hx
      have fin : ∀ H'', Same H' H'' → ∃ acc, H'' D = some (.lst acc) ∧ acc.length < sizeLine ∧ (Same Hc (upd H'' D (.lst (acc ++ [outs m d v i]))) ∧ (upd H'' D (.lst (acc ++ [outs m d v i]))) D = some (.lst ([outs m d v 0, outs m d v 1].take (i + 1)))) := fun H'' s4 => by
        refine ⟨_, s4 _ _ h3, Nat.lt_of_le_of_lt (List.length_take_le i _) (Nat.lt_of_lt_of_le hi (by decide)), same_upd (s3.trans s4) hD, ?_⟩
        rw [upd_same, List.take_add_one, two_get (outs m d v) hi]
        all_goals rfl
      refine ⟨rfl, _, rfl, _, rfl, lo, _, _, _, rfl, rfl, SqL.of (s3 _ _ S.ho), at_two (fun i => V.int ((m.l i : Nat) : Int)) hi, _, rfl, rfl, _, rfl, ?_⟩
      refine ite2 (fun c1 => ?_) (fun c1 => ?_)
      · have c2 : m.l i = d := int_eq.mp (of_decide_eq_true c1)
        have r := fin H' (Same.refl _)
        rw [show outs m d v i = v i by unfold outs; rw [if_pos c2]] at r
        exact ⟨_, rfl, _, rfl, kn, _, _, _, rfl, rfl, SqL.of (s3 _ _ hk), at_two v hi, r⟩
      · have c2 : ¬ m.l i = d := fun e => c1 (decide_eq_true (int_eq.mpr e))
        have r := fin H' (Same.refl _)
        rw [show outs m d v i = .non by unfold outs; rw [if_neg c2]] at r
        exact r
    · rintro H' ⟨s3, h3⟩
      have sH := s12.trans (S.same.trans s3)
      refine q D (outs m d v) H' sH (s12.free (S.same.free hD)) h3 fun h h2 => ?_
      have st := M.stopped wf h2 (dn h h2)
      unfold outs M.res
      by_cases c : m.l h = d
      · rw [if_pos c, if_pos (st.mp c)]
        exact (hkn' h h2).mono (Tups.same s3)
      · rw [if_neg c, if_neg (fun e => c (st.mpr e))]
        exact .non
end
end TA

set_option Elab.async false
set_option maxRecDepth 100000
set_option maxHeartbeats 4000000
namespace TA
open PySem L2 PyProof.Rows
set_option linter.unusedVariables false
def ky (t h : Nat) : List Key := [Sum.inl (t : Int), Sum.inl (h : Int)]
theorem ky_inj {t h t' h' : Nat} : ky t' h' = ky t h ↔ t' = t ∧ h' = h := by
  unfold ky
  constructor
  · intro e
    injection e with e1 e2
    injection e2 with e2 _
    injection e1 with e1
    injection e2 with e2
    omega
  · rintro ⟨rfl, rfl⟩
    rfl
def Look (H : Hp) (kvs : List (List Key × V)) (m : M) : Prop := ∀ h < 2, ∀ t : Nat, (valV kvs (ky t h) = none ∧ (m.c h).length ≤ t) ∨ ∃ v d, valV kvs (ky t h) = some v ∧ (m.c h)[t]? = some d ∧ Kn H v d
theorem Look.mono {H H' : Hp} (s : Tups H H') {kvs m} (l : Look H kvs m) : Look H' kvs m := fun h hh t => by
  rcases l h hh t with q | ⟨v, d, a, b, c⟩
  · exact .inl q
  · exact .inr ⟨v, d, a, b, c.mono s⟩
theorem Look.get {H : Hp} {kvs m} (l : Look H kvs m) {h : Nat} (hh : h < 2) (t : Nat) : Kn H ((valV kvs (ky t h)).getD .non) ((m.c h).getD t .none) := by
  rcases l h hh t with ⟨a, b⟩ | ⟨v, d, a, b, c⟩
  · rw [a, List.getD_eq_getElem?_getD, List.getElem?_eq_none b]
    exact .non
  · rw [a, List.getD_eq_getElem?_getD, b]
    exact c
structure BS (H0 H : Hp) (kn dn cd : Addr) (m : M) : Prop where
  same : Same H0 H
  f1 : H0 kn = none
  f2 : H0 dn = none
  f3 : H0 cd = none
  n1 : kn ≠ dn
  n2 : kn ≠ cd
  n3 : dn ≠ cd
  hk : ∃ v : Nat → V, H kn = some (.lst [v 0, v 1]) ∧ ∀ h < 2, Kn H (v h) (m.k h)
  hd : H dn = some (.lst [.int (m.done 0 : Nat), .int (m.done 1 : Nat)])
  hc : ∃ kvs, H cd = some (.dT kvs) ∧ kvs.length ≤ m.done 0 + m.done 1 ∧ Look H kvs m
  wf : m.wf
theorem BS.new {H0 H : Hp} {kn dn cd : Addr} {m : M} (S : BS H0 H kn dn cd m) {q : Addr} (hq : H q = none) (o : HO) : BS H0 (upd H q o) kn dn cd m := by
  have s := same_new hq o
  obtain ⟨v, h1, h2⟩ := S.hk
  obtain ⟨kvs, h3, h4, h5⟩ := S.hc
  exact { S with same := S.same.trans s, hk := ⟨v, s _ _ h1, fun h hh => (h2 h hh).mono (Tups.same s)⟩, hd := s _ _ S.hd, hc := ⟨kvs, s _ _ h3, h4, h5.mono (Tups.same s)⟩ }
theorem done_upf (m : M) (z i : Nat) : (m.step z).done i = upf m.done z (m.done z + 1) i := by
  rw [M.done_step]
  unfold upf
  by_cases e : i = z
  · rw [if_pos e, if_pos e, e]
  · rw [if_neg e, if_neg e]; rfl
theorem M.half {m : M} (w : m.wf) {z : Nat} (hz : z < 2) : m.done z / 2 = m.l z ∧ (m.done z % 2 = 0 ↔ ¬ m.l z < (m.c z).length) ∧ (¬ m.l z < (m.c z).length → (m.c z).length = m.l z) := by
  have := w z hz
  unfold M.done
  omega
theorem BS.put {H0 H : Hp} {kn dn cd : Addr} {m : M} (S : BS H0 H kn dn cd m) {z : Nat} (hz : z < 2) (c : ¬ m.l z < (m.c z).length) {kvs : List (List Key × V)} {v : V} (hcd : H cd = some (.dT kvs)) (hlen : kvs.length ≤ m.done 0 + m.done 1) (hL : Look H kvs m) (hv : Kn H v (m.k z)) :
    BS H0 (upd (upd H cd (.dT (putK kvs (ky (m.l z) z) v))) dn (.lst [.int ((m.step z).done 0 : Nat), .int ((m.step z).done 1 : Nat)])) kn dn cd (m.step z) := by
  have es : m.step z = { k := m.k, c := upf m.c z (m.c z ++ [m.k z]), l := m.l } := by unfold M.step; rw [if_neg c]
  have ec : ∀ h, (m.step z).c h = upf m.c z (m.c z ++ [m.k z]) h := fun h => by rw [es]
  have ek : ∀ h, (m.step z).k h = m.k h := fun h => by rw [es]
  have hl : (m.c z).length = m.l z := (M.half S.wf hz).2.2 c
  obtain ⟨vs, h1, h2⟩ := S.hk
  have t1 : Tups H (upd H cd (.dT (putK kvs (ky (m.l z) z) v))) := Tups.updD hcd
  have t2 : Tups H (upd (upd H cd (.dT (putK kvs (ky (m.l z) z) v))) dn (.lst [.int ((m.step z).done 0 : Nat), .int ((m.step z).done 1 : Nat)])) := t1.trans (Tups.updL (by rw [upd_ne S.n3]; exact S.hd))
  refine { S with same := same_upd (same_upd S.same S.f3) S.f2, hk := ⟨vs, ?_, fun h hh => ?_⟩, hd := upd_same, hc := ⟨_, by rw [upd_ne S.n3.symm, upd_same], ?_, fun h hh t => ?_⟩, wf := M.wf_step S.wf hz }
  · rw [upd_ne S.n1, upd_ne S.n2]; exact h1
  · rw [ek]; exact (h2 h hh).mono t2
  · have g1 := length_putK kvs (ky (m.l z) z) v
    generalize (putK kvs (ky (m.l z) z) v).length = n at g1 ⊢
    rw [M.done_step, M.done_step]
    rcases z with _ | _ | z
    · simp; omega
    · simp; omega
    · omega
  · rw [valV_put, ec]
    by_cases e : h = z
    · subst e
      rw [upf_same]
      by_cases et : t = m.l h
      · subst et
        refine .inr ⟨v, m.k h, if_pos rfl, ?_, hv.mono t2⟩
        rw [← hl, List.getElem?_append_right (Nat.le_refl _), Nat.sub_self]
        rfl
      · rw [if_neg (fun q => et (ky_inj.mp q).1)]
        rcases hL h hh t with ⟨a, b⟩ | ⟨v', d, a, b, k⟩
        · exact .inl ⟨a, by rw [List.length_append]; show _ + 1 ≤ t; omega⟩
        · refine .inr ⟨v', d, a, ?_, k.mono t2⟩
          rw [List.getElem?_append_left (List.getElem?_eq_some_iff.mp b).1]
          exact b
    · rw [upf_ne e, if_neg (fun q => e (ky_inj.mp q).2)]
      rcases hL h hh t with q | ⟨v', d, a, b, k⟩
      · exact .inl q
      · exact .inr ⟨v', d, a, b, k.mono t2⟩
theorem BS.look {H0 H : Hp} {kn dn cd : Addr} {m : M} (S : BS H0 H kn dn cd m) {z : Nat} (hz : z < 2) (c : m.l z < (m.c z).length) {v : Nat → V} {w : V} {q : Addr} (hk : H kn = some (.lst [v 0, v 1])) (hkn : ∀ h < 2, Kn H (v h) (m.k h)) (hw : Kn H w ((m.c (1 - z)).getD (m.l z) .none)) (hq : H q = some (.tup [v z, w])) :
    BS H0 (upd (upd H kn (.lst [upf v z (.ref q) 0, upf v z (.ref q) 1])) dn (.lst [.int ((m.step z).done 0 : Nat), .int ((m.step z).done 1 : Nat)])) kn dn cd (m.step z) := by
  have es : m.step z = { k := upf m.k z (.tuple [m.k z, (m.c (1 - z)).getD (m.l z) .none]), c := m.c, l := upf m.l z (m.l z + 1) } := by unfold M.step; rw [if_pos c]
  have ec : ∀ h, (m.step z).c h = m.c h := fun h => by rw [es]
  have ek : ∀ h, (m.step z).k h = upf m.k z (.tuple [m.k z, (m.c (1 - z)).getD (m.l z) .none]) h := fun h => by rw [es]
  obtain ⟨kvs, h3, h4, h5⟩ := S.hc
  have t2 : Tups H (upd (upd H kn (.lst [upf v z (.ref q) 0, upf v z (.ref q) 1])) dn (.lst [.int ((m.step z).done 0 : Nat), .int ((m.step z).done 1 : Nat)])) := (Tups.updL hk).trans (Tups.updL (by rw [upd_ne S.n1.symm]; exact S.hd))
  refine { S with same := same_upd (same_upd S.same S.f1) S.f2, hk := ⟨upf v z (.ref q), ?_, fun h hh => ?_⟩, hd := upd_same, hc := ⟨kvs, ?_, ?_, fun h hh t => ?_⟩, wf := M.wf_step S.wf hz }
  · rw [upd_ne S.n1, upd_same]
  · rw [ek]
    by_cases e : h = z
    · subst e
      rw [upf_same, upf_same]
      exact .tup (t2 _ _ hq) ((hkn h hh).mono t2) (hw.mono t2)
    · rw [upf_ne e, upf_ne e]
      exact (hkn h hh).mono t2
  · rw [upd_ne S.n3.symm, upd_ne S.n2.symm]; exact h3
  · rw [M.done_step, M.done_step]
    rcases z with _ | _ | z
    · simp; omega
    · simp; omega
    · omega
  · rw [ec]
    exact h5.mono t2 h hh t
def spBehind (K : PySem.W.Frag) : Sp := spTold fun vs H p hs d a b => ∃ t, vs = [.ref t, .ref p, .int (d : Int)] ∧ H t = some (.tup [.int a, .int b]) ∧ SqL K H p (hl hs)
theorem done_set (m : M) {z : Nat} (hz : z < 2) : ([.int (m.done 0 : Nat), .int (m.done 1 : Nat)] : List V).set z (.int (((m.done z : Nat) : Int) + 1)) = [.int ((m.step z).done 0 : Nat), .int ((m.step z).done 1 : Nat)] := by
  rw [done_upf, done_upf]
  exact ints_set m.done hz (m.done z + 1)
def outs2 (m : M) (d : Nat) (v : Nat → V) (h : Nat) : V := if m.done h = 2 * d then v h else .non
section
variable {P : Program} {w : World} {K : PySem.W.Frag} {mg : Str → Option Value} {base : Heap}
abbrev nBehind : List Str := ["_law_inputs", "_law_weaving_here", "_law_deep", "_law_cells", "_law_knows", "_law_done", "_law_hand", "_law_turn"]
theorem scBehind : FnScope nBehind ["_law_inputs", "_law_weaving_here", "_law_deep"] (defScope sBehind) := ⟨rfl, rfl, rfl, by decide +kernel, rfl, by decide +kernel, by decide +kernel⟩
theorem ok_behind {f : Addr} {fd : FuncData} (F : Fun K "_law_behind" "_law_behind" sBehind f fd) (T : Txt K mg) : FnOk P w K mg base CX0 1 f fd ["_law_inputs", "_law_weaving_here", "_law_deep"] (spBehind K) := by
  refine F.ok scBehind (fun vs H Q E h => ?_) (fun cdv A outer s H vs Q E hr h => ?_)
  · obtain ⟨p, hs, d, a, b, ⟨t, rfl, _⟩, _⟩ := h
    rfl
  obtain ⟨p, hs, d, a, b, ⟨t, rfl, ht, hS⟩, hh, hc, hz, hd, ha, hb, q⟩ := h
  have nd := scBehind.nd
  have hu := hu_of hr
  refine ⟨_, pss_cons (ps_set (i := 3) nd rfl (Or.inl rfl) pe_dnewT)
    (pss_cons (ps_set (i := 4) nd rfl (Or.inr rfl) (pe_callTy call_list_of (by rfl) T.list boot_list (pa_cons (pv 0) pa_nil)))
    (pss_cons (ps_set (i := 5) nd rfl (Or.inr rfl) (pe_lst (pa_cons pe_int (pa_cons pe_int pa_nil))))
    (pss_cons (ps_for PassesOwn.never rfl (pi_list (pv 1)) (pg_name (i := 6) nd rfl (Or.inl rfl))
      (pss_cons (ps_set (i := 7) nd rfl (Or.inl rfl) (pe_op op_fdiv (pe_ix ix_list (pv 5) (pv 6) (fun _ _ => rfl)) pe_int))
      (pss_cons (ps_if (pt_cmpR op_eq (pe_op op_mod (pe_ix ix_list (pv 5) (pv 6) (fun _ _ => rfl)) pe_int) pe_int (nomark _))
        (pss_one (ps_dput hu (pv 3) (pe_tup (pa_cons (pv 7) (pa_cons (pv 6) pa_nil))) (pe_ix ix_list (pv 4) (pv 6) (fun _ _ => rfl)) rfl))
        (pss_one (ps_asg (pe_tup (pa_cons (pe_ix ix_list (pv 4) (pv 6) (fun _ _ => rfl)) (pa_cons (pe_dget1 hu (pv 3) (pe_tup (pa_cons (pv 7) (pa_cons (pe_op op_sub pe_int (pv 6)) pa_nil))) ⟨by rfl, by rfl, by rfl, by rfl⟩) pa_nil))) (pg_sub (pv 4) (pv 6) set_list))))
      (pss_one (ps_asg (pe_op op_add (pe_ix ix_list (pv 5) (pv 6) (fun _ _ => rfl)) pe_int) (pg_sub (pv 5) (pv 6) set_list))))))
    (pss_one (ps_ret (pe_lc (own := [("_law_hand", 6)]) (g := gName 6) (tt := tYes) (te := tOp (rIxL K) (tLst (tCons (tC .non) (tCons (tOp (rIxL K) (tVar 4) (tVar 6)) tNil))) (tCB (fun xs H Q => (∃ i, xs = [.int i] ∧ Q (.int i) H) ∨ ∃ k, xs = [.bl k] ∧ Q (.int (if k then 1 else 0)) H) (tCons (tOp rEq (tOp (rIxL K) (tVar 5) (tVar 6)) (tOp (rI CMul fun i j => .int (i * j)) (tC (.int 2)) (tVar 2))) tNil))) rfl nd (pi_range1 rfl T.range (pa_cons pe_int pa_nil)) (blkOk_by (N := nBehind) (sc := defScope sBehind) (by decide +kernel)) (fun _ _ _ _ _ => pg_name (i := 6) nd rfl (Or.inl rfl)) (fun _ _ _ _ _ => pts_nil)
      (fun _ _ _ _ _ => (by refine pe_ix ix_list ?_ ?_ (fun _ _ => rfl); (refine pe_lst (pa_cons pe_non (pa_cons ?_ pa_nil)); exact pe_ix ix_list (pv 4) (pv 6) (fun _ _ => rfl)); (refine pe_callTy call_int1 (by rfl) T.int boot_int (pa_cons ?_ pa_nil); refine pe_cmpR op_eq ?_ (pe_op op_mul pe_int (pv 2)) (nomark _); exact pe_ix ix_list (pv 5) (pv 6) (fun _ _ => rfl)))))))))), ?_⟩
  refine fun cd hcd => ?_
  refine ⟨_, rfl, t, _, rfl, .inr (SqT.of (same_new hcd _ _ _ ht)), fun kn hkn => ?_⟩
  refine ⟨(by show 2 ≤ sizeLine; decide), fun dn hdn => ?_⟩
  have sa := same_new hcd (.dT [])
  have sb := sa.trans (same_new hkn (.lst [V.int a, V.int b]))
  have sc := sb.trans (same_new hdn (.lst [V.int 0, V.int 0]))
  have K0 : BS H (upd (upd (upd H cd (.dT [])) kn (.lst [V.int a, V.int b])) dn (.lst [V.int 0, V.int 0])) kn dn cd (M0 a b) := by
    have q1 := upd_same (H := H) (a := cd) (o := .dT [])
    have q2 := upd_same (H := upd H cd (.dT [])) (a := kn) (o := .lst [V.int a, V.int b])
    have b2 := same_new hkn (.lst [V.int a, V.int b])
    have b3 := same_new hdn (.lst [V.int 0, V.int 0])
    refine { same := sc, f1 := sa.free hkn, f2 := sb.free hdn, f3 := hcd, n1 := ne_of_none q2 hdn, n2 := (ne_of_none q1 hkn).symm, n3 := (ne_of_none (b2 _ _ q1) hdn).symm, hk := ⟨fun i => if i = 0 then .int a else .int b, b3 _ _ q2, fun h h2 => ?_⟩, hd := upd_same, hc := ⟨[], b3 _ _ (b2 _ _ q1), Nat.zero_le _, fun h h2 t => .inl ⟨rfl, Nat.zero_le _⟩⟩, wf := M.wf0 a b }
    rcases h with _ | _ | h
    · exact .int a
    · exact .int b
    · omega
  have lenH : (hl hs).length = hs.length := List.length_map _
  refine ⟨_, rfl, p, rfl, ⟨_, sc.seq hS⟩, for_list (K := K) (a := p) (xs := hl hs) (fun i σ Hc => ∃ g1 g2, σ = [some (.ref t), some (.ref p), some (.int (d : Int)), some (.ref cd), some (.ref kn), some (.ref dn), g1, g2] ∧ BS H Hc kn dn cd ((M0 a b).run (hs.take i))) ⟨none, none, rfl, K0⟩ ?_ ?_ ?_⟩
  · rintro i σ Hc _ ⟨g1, g2, _, S⟩
    exact S.same.seq hS
  · rintro i x σ Hc hx ⟨g1, g2, rfl, S⟩
    obtain ⟨z, rfl, hz1⟩ := hl_at hx
    have hz2 : z < 2 := hh z (List.mem_of_getElem? hz1)
    have er : (M0 a b).run (hs.take (i + 1)) = ((M0 a b).run (hs.take i)).step z := by
      rw [List.take_add_one, hz1]
      exact M.run_snoc _ _ _
    rw [er]
    have hdn1 : ∀ j, ((M0 a b).run (hs.take i)).done j ≤ 40 := fun j => by
      rw [M.done_run]
      have h1 := List.count_le_length (a := j) (l := hs.take i)
      rw [List.length_take] at h1
      show 0 + 0 + _ ≤ 40
      omega
    generalize (M0 a b).run (hs.take i) = m at S hdn1 ⊢
    obtain ⟨v, hk, hkn'⟩ := S.hk
    obtain ⟨kvs, hcd1, hlen, hL⟩ := S.hc
    have hf := M.half S.wf hz2
    have hd2 := at_two (fun i => V.int ((m.done i : Nat) : Int)) hz2
    have hl2 : ((m.done z : Nat) : Int) / 2 = ((m.l z : Nat) : Int) := by
      have := hf.1
      omega
    refine ⟨_, rfl, _, rfl, dn, _, _, _, rfl, rfl, SqL.of S.hd, hd2, _, _, rfl, rfl, ⟨by decide, by decide⟩, ?_⟩
    refine ⟨_, rfl, _, rfl, dn, _, _, _, rfl, rfl, SqL.of S.hd, hd2, _, _, rfl, rfl, (by show (0 : Int) < 2; decide), rfl, _, rfl, ?_⟩
    refine ite2 (fun c1 => ?_) (fun c1 => ?_)
    · have c2 : ((m.done z : Nat) : Int) % 2 = 0 := by
        have e := of_decide_eq_true c1
        injection e
      have c3 := hf.2.1.mp (by omega)
      refine ⟨_, rfl, _, rfl, kn, _, _, _, rfl, rfl, SqL.of hk, at_two v hz2, _, rfl, _, rfl, _, rfl, (by show 2 ≤ sizeLine; decide), fun q0 hq0 => ?_⟩
      have S1 := S.new hq0 (.tup [.int (((m.done z : Nat) : Int) / 2), .int (z : Int)])
      have s0 := same_new hq0 (.tup [V.int (((m.done z : Nat) : Int) / 2), V.int (z : Int)])
      have eb : (upd Hc q0 (.tup [.int (((m.done z : Nat) : Int) / 2), .int (z : Int)])) q0 = some (.tup ((ky (m.l z) z).map kV)) := by
        rw [upd_same, hl2]
        all_goals rfl
      have hsz : kvs.length < sizeLine := by
        have h0 := hdn1 0
        have h1 := hdn1 1
        exact Nat.lt_of_le_of_lt (show kvs.length ≤ 80 by omega) (by decide)
      refine ⟨cd, _, rfl, DPut.t (s0 _ _ hcd1) eb hsz, ?_⟩
      have r := S1.put hz2 c3 (v := v z) (s0 _ _ hcd1) hlen (hL.mono (Tups.same s0)) ((hkn' z hz2).mono (Tups.same s0))
      have hd3 := S1.hd
      have hd4 : (upd (upd Hc q0 (.tup [.int (((m.done z : Nat) : Int) / 2), .int (z : Int)])) cd (.dT (putK kvs (ky (m.l z) z) (v z)))) dn = some (.lst [.int (m.done 0 : Nat), .int (m.done 1 : Nat)]) := by
        rw [upd_ne S.n3]
        exact hd3
      refine ⟨_, rfl, _, rfl, dn, _, _, _, rfl, rfl, SqL.of hd4, hd2, _, _, rfl, rfl, _, rfl, _, rfl, dn, [.int (m.done 0 : Nat), .int (m.done 1 : Nat)], _, z, rfl, rfl, hd4, ixN_two hz2, ?_⟩
      rw [← done_set m hz2] at r
      exact ⟨_, _, rfl, r⟩
    · have c2 : ¬ ((m.done z : Nat) : Int) % 2 = 0 := fun e => c1 (decide_eq_true (by show V.int (((m.done z : Nat) : Int) % 2) = V.int 0; rw [e]))
      have c3 : m.l z < (m.c z).length := by
        have := hf.2.1
        omega
      refine ⟨_, rfl, _, rfl, kn, _, _, _, rfl, rfl, SqL.of hk, at_two v hz2, _, rfl, cd, rfl, .inr ⟨kvs, .inl hcd1⟩, _, rfl, _, rfl, _, _, rfl, rfl, (by show 2 ≤ sizeLine; decide), fun q0 hq0 => ?_⟩
      have S1 := S.new hq0 (.tup [.int (((m.done z : Nat) : Int) / 2), .int ((1 : Int) - (z : Int))])
      have s0 := same_new hq0 (.tup [V.int (((m.done z : Nat) : Int) / 2), V.int ((1 : Int) - (z : Int))])
      have eb : (upd Hc q0 (.tup [.int (((m.done z : Nat) : Int) / 2), .int ((1 : Int) - (z : Int))])) q0 = some (.tup ((ky (m.l z) (1 - z)).map kV)) := by
        rw [upd_same, hl2, show (1 : Int) - (z : Int) = ((1 - z : Nat) : Int) by omega]
        all_goals rfl
      refine ⟨_, DGet.t (s0 _ _ hcd1) eb, (by show 2 ≤ sizeLine; decide), fun q1 hq1 => ?_⟩
      have s1 := s0.trans (same_new hq1 (.tup [v z, (valV kvs (ky (m.l z) (1 - z))).getD .non]))
      have S2 := S1.new hq1 (.tup [v z, (valV kvs (ky (m.l z) (1 - z))).getD .non])
      have r := S2.look hz2 c3 (s1 _ _ hk) (fun h h2 => (hkn' h h2).mono (Tups.same s1)) ((hL.get (h := 1 - z) (by omega) (m.l z)).mono (Tups.same s1)) upd_same
      have hd4 := S2.hd
      refine ⟨_, rfl, _, rfl, kn, [v 0, v 1], _, z, rfl, rfl, s1 _ _ hk, ixN_two hz2, ?_⟩
      have hd5 : (upd (upd (upd Hc q0 (.tup [.int (((m.done z : Nat) : Int) / 2), .int ((1 : Int) - (z : Int))])) q1 (.tup [v z, (valV kvs (ky (m.l z) (1 - z))).getD .non])) kn (.lst ([v 0, v 1].set z (.ref q1)))) dn = some (.lst [.int (m.done 0 : Nat), .int (m.done 1 : Nat)]) := by
        rw [upd_ne S.n1.symm]
        exact hd4
      refine ⟨_, rfl, _, rfl, dn, _, _, _, rfl, rfl, SqL.of hd5, hd2, _, _, rfl, rfl, _, rfl, _, rfl, dn, [.int (m.done 0 : Nat), .int (m.done 1 : Nat)], _, z, rfl, rfl, hd5, ixN_two hz2, ?_⟩
      rw [← done_set m hz2, ← two_set v hz2] at r
      exact ⟨_, _, rfl, r⟩
  · rintro σ Hc ⟨g1, g2, rfl, S⟩
    rw [lenH, List.take_length] at S
    generalize (M0 a b).run hs = m at S q ⊢
    obtain ⟨v, hk, hkn'⟩ := S.hk
    refine ⟨2, rfl, by decide, by decide, fun D hD => ?_⟩
    refine range_turns (n := 2) (fun i H' => Same Hc H' ∧ H' D = some (.lst ([outs2 m d v 0, outs2 m d v 1].take i))) ⟨same_new hD _, upd_same⟩ ?_ ?_
    · rintro i H' hi ⟨s3, h3⟩
      have ei : (0 : Int) + (i : Int) = (i : Int) := by omega
      rw [ei]
      refine ⟨rfl, _, rfl, _, rfl, kn, _, _, _, rfl, rfl, SqL.of (s3 _ _ hk), at_two v hi, (by show 2 ≤ sizeLine; decide), fun q0 hq0 => ?_⟩
      have s4 := same_new hq0 (.lst [V.non, v i])
      have s34 := s3.trans s4
      refine ⟨_, rfl, _, rfl, dn, _, _, _, rfl, rfl, SqL.of (s34 _ _ S.hd), at_two (fun i => V.int ((m.done i : Nat) : Int)) hi, _, rfl, _, _, rfl, rfl, .inl ⟨by decide, by decide⟩, rfl, .inr ⟨_, rfl, ?_⟩⟩
      have fin : atI [V.non, v i] (if decide (V.int ((m.done i : Nat) : Int) = V.int (2 * (d : Int))) = true then 1 else 0) = some (outs2 m d v i) := by
        unfold outs2
        by_cases c : m.done i = 2 * d
        · have e1 : V.int ((m.done i : Nat) : Int) = V.int (2 * (d : Int)) := by rw [c]; congr 1
          rw [if_pos c, decide_eq_true e1]
          rfl
        · have e1 : ¬ V.int ((m.done i : Nat) : Int) = V.int (2 * (d : Int)) := fun e => by injection e with e; omega
          rw [if_neg c, decide_eq_false e1]
          rfl
      refine ⟨q0, _, _, _, rfl, rfl, SqL.of upd_same, fin, _, s4 _ _ h3, Nat.lt_of_le_of_lt (List.length_take_le i _) (Nat.lt_of_lt_of_le hi (by decide)), same_upd s34 hD, ?_⟩
      rw [upd_same, List.take_add_one, two_get (outs2 m d v) hi]
      all_goals rfl
    · rintro H' ⟨s3, h3⟩
      refine q D (outs2 m d v) H' (S.same.trans s3) (S.same.free hD) h3 fun h h2 => ?_
      unfold outs2 M.res
      by_cases c : m.done h = 2 * d
      · rw [if_pos c, if_pos c]
        exact (hkn' h h2).mono (Tups.same s3)
      · rw [if_neg c, if_neg c]
        exact .non
end
end TA

set_option Elab.async false
set_option maxRecDepth 100000
set_option maxHeartbeats 4000000
namespace TA
open PySem L2 PyProof.Rows
set_option linter.unusedVariables false
/-- all but what stands at a is as it was -/
def But (a : Addr) (H H' : Hp) : Prop := ∀ b o, b ≠ a → H b = some o → H' b = some o
def WellAt (H : Hp) (a : Addr) (n : Int) : Prop := ∃ x y z : Int, H a = some (.lst [.int x, .int y, .int z]) ∧ 0 ≤ x ∧ 0 ≤ y ∧ y < 2147483629 ∧ 0 ≤ z ∧ z ≤ n
theorem But.trans {a : Addr} {H H1 H2 : Hp} (h : But a H H1) (g : But a H1 H2) : But a H H2 := fun b o e q => g b o e (h b o e q)
theorem But.same {a : Addr} {H H' : Hp} (s : Same H H') : But a H H' := fun b o _ q => s b o q
theorem WellAt.same {H H' : Hp} {a : Addr} {n : Int} (s : Same H H') (w : WellAt H a n) : WellAt H' a n := by
  obtain ⟨x, y, z, h, r⟩ := w
  exact ⟨x, y, z, s _ _ h, r⟩
theorem WellAt.up {H : Hp} {a : Addr} {n m : Int} (w : WellAt H a n) (h : n ≤ m) : WellAt H a m := by
  obtain ⟨x, y, z, e, r1, r2, r3, r4, r5⟩ := w
  exact ⟨x, y, z, e, r1, r2, r3, r4, by omega⟩
theorem But.free {a : Addr} {H H' : Hp} {m : Int} (b : But a H H') (w : WellAt H' a m) {q : Addr} (h : H' q = none) : H q = none := by
  obtain ⟨x, y, z, e, _⟩ := w
  have nq : q ≠ a := fun c => by rw [c, e] at h; cases h
  cases g : H q with
  | none => rfl
  | some o => rw [b q o nq g] at h; cases h
def spDraw2 : Sp := fun vs H Q _ => ∃ (a : Addr) (n m : Int), vs = [.ref a, .int m] ∧ WellAt H a n ∧ n < 999999 ∧ 0 < m ∧ m < 2 ^ 100 ∧ ∀ (r : Int) (H' : Hp), 0 ≤ r → r < m → But a H H' → WellAt H' a (n + 1) → Q (.int r) H'
def spOne2 : Sp := fun vs H Q _ => ∃ (a l : Addr) (n : Int) (xs : List V), vs = [.ref a, .ref l] ∧ WellAt H a n ∧ n < 999999 ∧ H l = some (.lst xs) ∧ a ≠ l ∧ 0 < xs.length ∧ xs.length < 1000 ∧ ∀ (i : Nat) (v : V) (H' : Hp), xs[i]? = some v → But a H H' → WellAt H' a (n + 1) → Q v H'
theorem weak {P : Program} {w : World} {K : PySem.W.Frag} {mg : Str → Option Value} {base : Heap} {k : Nat} {f : Addr} {fd : FuncData} {ps : List Str} {sp sp' : Sp} (F : FnOk P w K mg base CX0 k f fd ps sp) (i : ∀ vs H Q E, sp' vs H Q E → sp vs H Q E) : FnOk P w K mg base CX0 k f fd ps sp' :=
  ⟨fun vs H Q E h => F.len vs H Q E (i _ _ _ _ h), fun A outer s H args us vs Q E a b c d h => F.run A outer s H args us vs Q E a b c d (i _ _ _ _ h)⟩
theorem draw_weak (vs : List V) (H : Hp) (Q : VK) (E : XK) (h : spDraw2 vs H Q E) : spDraw vs H Q E := by
  obtain ⟨a, n, m, rfl, ⟨x, y, z, e, r1, r2, r3, r4, r5⟩, hn, hm, hm2, q⟩ := h
  exact ⟨a, x, y, z, m, rfl, e, r1, r2, r3, r4, by omega, hm, hm2, fun r x' z' h0 h1 hx hz hz2 => q r _ h0 h1 (fun b o nb hb => by rw [upd_ne nb]; exact hb) ⟨x', y, z', upd_same, hx, r2, r3, by omega, by omega⟩⟩
theorem one_weak {K : PySem.W.Frag} (vs : List V) (H : Hp) (Q : VK) (E : XK) (h : spOne2 vs H Q E) : spOne K vs H Q E := by
  obtain ⟨a, l, n, xs, rfl, ⟨x, y, z, e, r1, r2, r3, r4, r5⟩, hn, hl, al, l0, l1, q⟩ := h
  exact ⟨a, l, x, y, z, xs, rfl, e, r1, r2, r3, r4, by omega, hl, al, l0, l1, fun i v x' z' hv hx hz hz2 => q i v _ hv (fun b o nb hb => by rw [upd_ne nb]; exact hb) ⟨x', y, z', upd_same, hx, r2, r3, by omega, by omega⟩⟩
/-- a weaving that is drawn -/
def spLW : Sp := fun vs H Q _ => ∃ (a : Addr) (n : Int) (d : Nat) (st : Bool), vs = [.ref a, .int (d : Int), .bl st] ∧ WellAt H a n ∧ n ≤ 900000 ∧ d ≤ 5 ∧
  ∀ (o : Addr) (hs : List Nat) (H' : Hp), But a H H' → WellAt H' a (n + 100) → H o = none → H' o = some (.lst (hl hs)) → (∀ h ∈ hs, h < 2) → (∀ h < 2, hs.count h ≤ 2 * d) → Q (.ref o) H'
def avail (l : Nat → Nat) (i : Nat) : List Nat := (([0, 1] : List Nat).take i).filter fun h => decide (0 < l h)
theorem avail_mem {l : Nat → Nat} {i h : Nat} (m : h ∈ avail l i) : h < 2 ∧ 0 < l h := by
  unfold avail at m
  obtain ⟨m1, m2⟩ := List.mem_filter.mp m
  have m3 := List.mem_of_mem_take m1
  have : h = 0 ∨ h = 1 := by simpa using m3
  exact ⟨by omega, of_decide_eq_true m2⟩
theorem avail_step {l : Nat → Nat} {i : Nat} (hi : i < 2) : avail l (i + 1) = if 0 < l i then avail l i ++ [i] else avail l i := by
  unfold avail
  have e : ([0, 1] : List Nat)[i]? = some i := two_get (fun i => i) hi
  rw [List.take_add_one, e, List.filter_append]
  by_cases c : 0 < l i
  · rw [if_pos c]; simp [c]
  · rw [if_neg c]; simp [c]
theorem avail_len (l : Nat → Nat) (i : Nat) : (avail l i).length ≤ 2 := by
  unfold avail
  refine Nat.le_trans (List.length_filter_le _ _) ?_
  rw [List.length_take]
  exact Nat.min_le_right _ _
theorem avail_pos {l : Nat → Nat} (h : 0 < l 0 + l 1) : 0 < (avail l 2).length := by
  rw [avail_step (by decide), avail_step (by decide)]
  by_cases c : 0 < l 1
  · rw [if_pos c, List.length_append]; show 0 < _ + 1; omega
  · rw [if_neg c, if_pos (show 0 < l 0 by omega), List.length_append]; show 0 < _ + 1; omega
theorem hl_snoc (hs : List Nat) (z : Nat) : hl hs ++ [V.int (z : Int)] = hl (hs ++ [z]) := by
  unfold hl
  rw [List.map_append]
  rfl
theorem join {b : Bool} {X : Prop} {R : Hp → Prop} {H : Hp} (Iv : Hp → Prop) (h0 : Iv H) (k : ∀ Hc, Iv Hc → R Hc) (h1 : (∀ Hc, Iv Hc → R Hc) → X) : if b = true then X else R H := by
  cases b with
  | false => exact iteF (k H h0)
  | true => exact iteT (h1 k)
def LWI (H : Hp) (a mn lf fo : Addr) (n : Int) (d : Nat) (st : Bool) (m : Nat) (σ : L2.St) (Hc : Hp) : Prop := ∃ (l : Nat → Nat) (hs : List Nat) (g1 g2 : Option V), m = l 0 + l 1 ∧
  σ = [some (.ref a), some (.int (d : Int)), some (.bl st), some (.ref mn), some (.ref lf), some (.ref fo), g1, g2] ∧ But a H Hc ∧ WellAt Hc a (n + 2 + 3 * (20 - ((l 0 + l 1 : Nat) : Int))) ∧
  Hc lf = some (.lst [.int (l 0 : Nat), .int (l 1 : Nat)]) ∧ Hc fo = some (.lst (hl hs)) ∧ (∀ h ∈ hs, h < 2) ∧ ∀ h < 2, hs.count h + l h ≤ 2 * d
theorem len_counts : ∀ hs : List Nat, (∀ h ∈ hs, h < 2) → hs.length = hs.count 0 + hs.count 1
  | [], _ => rfl
  | h :: r, q => by
    have ih := len_counts r (fun x hx => q x (List.mem_cons_of_mem _ hx))
    have h2 := q h List.mem_cons_self
    rw [List.length_cons, List.count_cons, List.count_cons, ih]
    rcases h with _ | _ | h
    · simp; omega
    · simp; omega
    · omega
theorem But.upd {a p : Addr} {H H' : Hp} {o : HO} (b : But a H H') (f : H p = none) : But a H (L2.upd H' p o) := fun c u nc e => by
  rw [upd_ne (ne_of_none e f)]
  exact b _ _ nc e
theorem WellAt.upd {a p : Addr} {H : Hp} {o : HO} {n : Int} (w : WellAt H a n) (f : a ≠ p) : WellAt (L2.upd H p o) a n := by
  obtain ⟨x, y, z, e, r⟩ := w
  exact ⟨x, y, z, by rw [upd_ne f]; exact e, r⟩
section
variable {P : Program} {w : World} {K : PySem.W.Frag} {mg : Str → Option Value} {base : Heap}
abbrev nLW : List Str := ["_law_well_here", "_law_deep", "_law_stops", "_law_many", "_law_left", "_law_found", "_law_hand", "_law_step"]
theorem scLW : FnScope nLW ["_law_well_here", "_law_deep", "_law_stops"] (defScope sLawWeav) := ⟨rfl, rfl, rfl, by decide +kernel, rfl, by decide +kernel, by decide +kernel⟩
theorem ok_lw {f g1 g2 : Addr} {fd d1 d2 : FuncData} (F : Fun K "_law_weaving" "_law_weaving" sLawWeav f fd) (T : Txt K mg) (D1 : Def P w K mg base "_law_draw" ["_law_well_here", "_law_many"] 1 spDraw2 g1 d1) (D2 : Def P w K mg base "_law_one" ["_law_well_here", "_law_some"] 2 spOne2 g2 d2) :
    FnOk P w K mg base CX0 3 f fd ["_law_well_here", "_law_deep", "_law_stops"] spLW := by
  refine F.ok scLW (fun vs H Q E h => ?_) (fun cdv A outer s H vs Q E hr h => ?_)
  · obtain ⟨a, n, d, st, rfl, _⟩ := h
    rfl
  obtain ⟨a, n, d, st, rfl, hW, hn, hd, q⟩ := h
  have nd := scLW.nd
  refine ⟨_, pss_cons (ps_set (i := 3) nd rfl (Or.inl rfl) (pe_lst (pa_cons (pe_op op_mul pe_int (pv 1)) (pa_cons (pe_op op_mul pe_int (pv 1)) pa_nil))))
    (pss_cons (ps_if (pt_val (pv 2)) (pss_one (ps_asg (pe_call D1.G (hr.mono (by decide)) rfl D1.m D1.k D1.b .nil pass0 (pa_cons (pv 0) (pa_cons (pe_op op_add (pe_op op_mul pe_int (pv 1)) pe_int) pa_nil))) (pg_sub (pv 3) (pe_call D1.G (hr.mono (by decide)) rfl D1.m D1.k D1.b .nil pass0 (pa_cons (pv 0) (pa_cons pe_int pa_nil))) set_list))) pss_nil)
    (pss_cons (ps_set (i := 4) nd rfl (Or.inr rfl) (pe_callTy call_list_of (by rfl) T.list boot_list (pa_cons (pv 3) pa_nil)))
    (pss_cons (ps_set (i := 5) nd rfl (Or.inl rfl) (pe_lst pa_nil))
    (pss_cons (ps_while PassesOwn.never (pt_cmpR op_gt (pe_callB (cr_sum rfl) (by rfl) T.sum (by decide +kernel) (pa_cons (pv 4) pa_nil)) pe_int (nomark _))
      (pss_cons (ps_set (i := 6) nd rfl (Or.inl rfl) (pe_call D2.G (hr.mono (by decide)) rfl D2.m D2.k D2.b .nil pass0 (pa_cons (pv 0) (pa_cons
          (pe_lc (own := [("_law_hand", 6)]) (g := gName 6) (tt := tTest (tOp (rI0 fun i j => .bl (decide (j < i))) (tOp (rIxL K) (tVar 4) (tVar 6)) (tC (.int 0)))) (te := tVar 6) rfl nd (pi_range1 rfl T.range (pa_cons pe_int pa_nil)) (blkOk_by (N := nLW) (sc := defScope sLawWeav) (by decide +kernel)) (fun _ _ _ _ _ => pg_name (i := 6) nd rfl (Or.inl rfl))
            (fun _ _ _ _ _ => (by refine pts_one (pt_cmpR op_gt ?_ pe_int (nomark _)); exact pe_ix ix_list (pv 4) (pv 6) (fun _ _ => rfl))) (fun _ _ _ _ _ => pv 6)) pa_nil))))
      (pss_one (ps_for PassesOwn.never rfl (pi_range1 rfl T.range (pa_cons (pe_callB (call_min2 rfl) (by rfl) T.min (by decide +kernel) (pa_cons (pe_ix ix_list (pv 4) (pv 6) (fun _ _ => rfl)) (pa_cons (pe_op op_add pe_int (pe_call D1.G (hr.mono (by decide)) rfl D1.m D1.k D1.b .nil pass0 (pa_cons (pv 0) (pa_cons (pe_call D2.G (hr.mono (by decide)) rfl D2.m D2.k D2.b .nil pass0 (pa_cons (pv 0) (pa_cons (pe_lst (pa_cons pe_int (pa_cons pe_int (pa_cons pe_int pa_nil)))) pa_nil))) pa_nil)))) pa_nil))) pa_nil)) (pg_name (i := 7) nd rfl (Or.inl rfl))
        (pss_cons (ps_expr (pe_bm PySem.F.plainAttrs_list PySem.F.slot_list_append PySem.F.type_list_append mt_append (pv 5) (pa_cons (pv 6) pa_nil)))
        (pss_one (ps_asg (pe_op op_sub (pe_ix ix_list (pv 4) (pv 6) (fun _ _ => rfl)) pe_int) (pg_sub (pv 4) (pv 6) set_list))))))))
    (pss_one (ps_ret (pv 5))))))), ?_⟩
  refine ⟨_, rfl, _, _, rfl, rfl, .inl ⟨by decide, by decide⟩, _, rfl, _, _, rfl, rfl, .inl ⟨by decide, by decide⟩, (by show 2 ≤ sizeLine; decide), fun mn hmn => ?_⟩
  obtain ⟨x0, y0, z0, ea, _⟩ := id hW
  have nam : a ≠ mn := ne_of_none ea hmn
  have s0 := same_new hmn (.lst [V.int (2 * (d : Int)), V.int (2 * (d : Int))])
  have hm1 : (upd H mn (.lst [V.int (2 * (d : Int)), V.int (2 * (d : Int))])) mn = some (.lst [V.int (2 * (d : Int)), V.int (2 * (d : Int))]) := upd_same
  have b0 : But a H (upd H mn (.lst [V.int (2 * (d : Int)), V.int (2 * (d : Int))])) := But.same s0
  have w0 : WellAt (upd H mn (.lst [V.int (2 * (d : Int)), V.int (2 * (d : Int))])) a n := hW.same s0
  generalize upd H mn (.lst [V.int (2 * (d : Int)), V.int (2 * (d : Int))]) = H1 at hm1 b0 w0 ⊢
  have e2d : V.int (2 * (d : Int)) = V.int ((2 * d : Nat) : Int) := by congr 1
  refine ⟨_, rfl, st, rfl, ?_⟩
  refine join (H := H1) (fun Hc => But a H Hc ∧ WellAt Hc a (n + 2) ∧ ∃ l : Nat → Nat, Hc mn = some (.lst [.int (l 0 : Nat), .int (l 1 : Nat)]) ∧ ∀ h < 2, l h ≤ 2 * d) ?_ ?_ ?_
  · refine ⟨b0, w0.up (by omega), fun _ => 2 * d, ?_, fun _ _ => Nat.le_refl _⟩
    rw [hm1, e2d]
  · rintro Hc ⟨b1, w1, l, hl1, hl2⟩
    refine ⟨_, rfl, mn, _, rfl, .inl (SqL.of hl1), fun lf hlf => ⟨Nat.zero_le _, fun fo hfo => ?_⟩⟩
    obtain ⟨x1, y1, z1, ec, _⟩ := id w1
    have nalf : a ≠ lf := ne_of_none ec hlf
    have s1 := same_new hlf (.lst [V.int (l 0 : Nat), V.int (l 1 : Nat)])
    have s2 := s1.trans (same_new hfo (.lst []))
    have nafo : a ≠ fo := ne_of_none (s1 _ _ ec) hfo
    have nlfo : lf ≠ fo := ne_of_none upd_same hfo
    have H0lf : H lf = none := b1.free w1 hlf
    have H0fo : H fo = none := b1.free w1 (s1.free hfo)
    have hlf1 : (upd (upd Hc lf (.lst [V.int (l 0 : Nat), V.int (l 1 : Nat)])) fo (.lst [])) lf = some (.lst [V.int (l 0 : Nat), V.int (l 1 : Nat)]) := by rw [upd_ne nlfo]; exact upd_same
    refine ⟨LWI H a mn lf fo n d st, ⟨l 0 + l 1, l, [], none, none, rfl, rfl, b1.trans (But.same s2), ?_, hlf1, upd_same, (fun h hh => by cases hh), fun h hh => ?_⟩, ?_⟩
    · refine (w1.same s2).up ?_
      have := hl2 0 (by decide)
      have := hl2 1 (by decide)
      omega
    · have := hl2 h hh
      show 0 + _ ≤ _
      omega
    rintro m σ Hw ⟨l, hs, g1, g2, rfl, rfl, bw, ww, hlw, hfw, hh, hcl⟩
    have c0 := hcl 0 (by decide)
    have c1 := hcl 1 (by decide)
    have hlen := len_counts hs hh
    have esum : (([((l 0 : Nat) : Int), ((l 1 : Nat) : Int)] : List Int).sum) = ((l 0 + l 1 : Nat) : Int) := by
      simp [List.sum_cons]
    refine ⟨_, rfl, lf, [((l 0 : Nat) : Int), ((l 1 : Nat) : Int)], rfl, SqL.of hlw, _, _, rfl, rfl, _, rfl, ?_⟩
    rw [esum]
    refine ite2 (fun c => ?_) (fun c => ?_)
    · have cp : (0 : Int) < ((l 0 + l 1 : Nat) : Int) := of_decide_eq_true c
      refine ⟨fun σ' H' => ∃ m', m' < l 0 + l 1 ∧ LWI H a mn lf fo n d st m' σ' H', fun σ' H' h => h, ?_⟩
      refine ⟨_, rfl, 2, rfl, by decide, by decide, fun D hD => ?_⟩
      obtain ⟨xw, yw, zw, ew, _⟩ := id ww
      have naD : a ≠ D := ne_of_none ew hD
      refine range_turns (n := 2) (fun i H' => Same Hw H' ∧ H' D = some (.lst (hl (avail l i)))) ⟨same_new hD _, upd_same⟩ ?_ ?_
      · rintro i H' hi ⟨s3, h3⟩
        have ei : (0 : Int) + (i : Int) = (i : Int) := by omega
        rw [ei]
        refine ⟨rfl, _, rfl, _, rfl, lf, _, _, _, rfl, rfl, SqL.of (s3 _ _ hlw), at_two (fun i => V.int ((l i : Nat) : Int)) hi, _, _, rfl, rfl, _, rfl, ?_⟩
        have al := avail_len l i
        refine ite2 (fun c2 => ?_) (fun c2 => ?_)
        · have c3 : (0 : Int) < ((l i : Nat) : Int) := of_decide_eq_true c2
          refine ⟨_, rfl, _, h3, (by unfold hl; rw [List.length_map]; exact Nat.lt_of_le_of_lt al (by decide)), same_upd s3 hD, ?_⟩
          rw [upd_same, hl_snoc, avail_step hi, if_pos (by omega)]
        · have c3 : ¬ (0 : Int) < ((l i : Nat) : Int) := of_decide_eq_false (Bool.eq_false_iff.mpr c2)
          rw [avail_step hi, if_neg (by omega)]
          exact ⟨s3, h3⟩
      · rintro H' ⟨s3, h3⟩
        have pos := avail_pos (l := l) (by omega)
        have al := avail_len l 2
        have lenA : (hl (avail l 2)).length = (avail l 2).length := List.length_map _
        refine ⟨a, D, _, _, rfl, ww.same s3, by omega, h3, naD, by omega, by omega, fun i v H2 hv b2 w2 => ?_⟩
        obtain ⟨z, rfl, hz⟩ := hl_at hv
        obtain ⟨hz2, hzl⟩ := avail_mem (List.mem_of_getElem? hz)
        have hlw2 : H2 lf = _ := b2 _ _ nalf.symm (s3 _ _ hlw)
        have hfw2 : H2 fo = _ := b2 _ _ nafo.symm (s3 _ _ hfw)
        refine ⟨_, rfl, _, rfl, lf, _, _, _, rfl, rfl, SqL.of hlw2, at_two (fun i => V.int ((l i : Nat) : Int)) hz2, _, rfl, _, rfl, (by show 3 ≤ sizeLine; decide), fun D2 hD2 => ?_⟩
        obtain ⟨xv, yv, zv, ev, _⟩ := id w2
        have s4 := same_new hD2 (.lst [V.int 1, V.int 2, V.int 5])
        refine ⟨a, D2, _, _, rfl, w2.same s4, by omega, upd_same, ne_of_none ev hD2, by decide, by decide, fun i2 v2 H3 hv2 b3 w3 => ?_⟩
        obtain ⟨r, rfl, rp, rq⟩ : ∃ r : Int, v2 = .int r ∧ 0 < r ∧ r ≤ 5 := by
          rcases i2 with _ | _ | _ | i2
          · exact ⟨1, by simpa using hv2.symm, by decide, by decide⟩
          · exact ⟨2, by simpa using hv2.symm, by decide, by decide⟩
          · exact ⟨5, by simpa using hv2.symm, by decide, by decide⟩
          · simp at hv2
        refine ⟨a, _, r, rfl, w3, by omega, rp, by omega, fun r2 H4 p0 p1 b4 w4 => ?_⟩
        have b24 : But a H2 H4 := ((But.same s4).trans b3).trans b4
        have hlw4 : H4 lf = _ := b24 _ _ nalf.symm hlw2
        have hfw4 : H4 fo = _ := b24 _ _ nafo.symm hfw2
        have bw4 : But a H H4 := ((bw.trans (But.same s3)).trans b2).trans b24
        refine ⟨_, _, rfl, rfl, _, _, rfl, ?_⟩
        have hk1 : 1 ≤ (if 1 + r2 < ((l z : Nat) : Int) then 1 + r2 else ((l z : Nat) : Int)) ∧ (if 1 + r2 < ((l z : Nat) : Int) then 1 + r2 else ((l z : Nat) : Int)) ≤ ((l z : Nat) : Int) := by
          split <;> omega
        generalize (if 1 + r2 < ((l z : Nat) : Int) then 1 + r2 else ((l z : Nat) : Int)) = kk at hk1 ⊢
        have hzd := hcl z hz2
        refine ⟨kk, rfl, by omega, by omega, ?_⟩
        refine for_range (n := kk.toNat) (fun j σ Hj => ∃ g2, σ = [some (.ref a), some (.int (d : Int)), some (.bl st), some (.ref mn), some (.ref lf), some (.ref fo), some (.int (z : Int)), g2] ∧ But a H Hj ∧ WellAt Hj a (n + 2 + 3 * (20 - ((l 0 + l 1 : Nat) : Int)) + 1 + 1 + 1) ∧ Hj lf = some (.lst [.int (upf l z (l z - j) 0 : Nat), .int (upf l z (l z - j) 1 : Nat)]) ∧ Hj fo = some (.lst (hl (hs ++ List.replicate j z)))) ?_ ?_ ?_
        · refine ⟨_, rfl, bw4, w4, ?_, by rw [List.replicate_zero, List.append_nil]; exact hfw4⟩
          rw [hlw4, ← ints_set l hz2 (l z - 0), Nat.sub_zero]
          rcases z with _ | _ | z
          · rfl
          · rfl
          · omega
        · rintro j σ Hj hj ⟨g2, rfl, bj, wj, hlj, hfj⟩
          have hszj : (hl (hs ++ List.replicate j z)).length < sizeLine := by
            unfold hl
            rw [List.length_map, List.length_append, List.length_replicate]
            exact Nat.lt_of_le_of_lt (show hs.length + j ≤ 100 by omega) (by decide)
          refine ⟨_, rfl, .inl ⟨rfl, _, SqL.of hfj⟩, _, rfl, fo, _, _, rfl, rfl, hfj, hszj, ?_⟩
          have hlj2 : (upd Hj fo (.lst (hl (hs ++ List.replicate j z) ++ [V.int (z : Int)]))) lf = some (.lst [.int (upf l z (l z - j) 0 : Nat), .int (upf l z (l z - j) 1 : Nat)]) := by
            rw [upd_ne nlfo]; exact hlj
          refine ⟨_, rfl, _, rfl, lf, _, _, _, rfl, rfl, SqL.of hlj2, at_two (fun i => V.int ((upf l z (l z - j) i : Nat) : Int)) hz2, _, _, rfl, rfl, _, rfl, _, rfl, lf, [.int (upf l z (l z - j) 0 : Nat), .int (upf l z (l z - j) 1 : Nat)], _, z, rfl, rfl, hlj2, ixN_two hz2, ?_⟩
          refine ⟨_, rfl, (bj.upd H0fo).upd H0lf, (wj.upd nafo).upd nalf, ?_, ?_⟩
          · rw [upd_same]
            have e1 : ((upf l z (l z - j) z : Nat) : Int) - 1 = ((l z - (j + 1) : Nat) : Int) := by
              rw [upf_same]; omega
            show some (HO.lst (([V.int (upf l z (l z - j) 0 : Nat), V.int (upf l z (l z - j) 1 : Nat)]).set z (V.int (((upf l z (l z - j) z : Nat) : Int) - 1)))) = _
            rw [e1, ints_set (upf l z (l z - j)) hz2]
            have e2 : ∀ i, upf (upf l z (l z - j)) z (l z - (j + 1)) i = upf l z (l z - (j + 1)) i := fun i => by
              unfold upf
              split <;> rfl
            rw [e2, e2]
          · rw [upd_ne nlfo.symm, upd_same, hl_snoc, List.append_assoc, List.replicate_succ']
        · rintro σ Hj ⟨g2, rfl, bj, wj, hlj, hfj⟩
          have ek : kk = ((kk.toNat : Nat) : Int) := by omega
          have hsum : upf l z (l z - kk.toNat) 0 + upf l z (l z - kk.toNat) 1 + kk.toNat = l 0 + l 1 := by
            obtain rfl | rfl : z = 0 ∨ z = 1 := by omega
            · show l 0 - kk.toNat + l 1 + kk.toNat = _; omega
            · show l 0 + (l 1 - kk.toNat) + kk.toNat = _; omega
          refine ⟨_, ?_, upf l z (l z - kk.toNat), hs ++ List.replicate kk.toNat z, some (.int (z : Int)), g2, rfl, rfl, bj, wj.up (by omega), hlj, hfj, ?_, ?_⟩
          · omega
          · intro h hm
            rcases List.mem_append.mp hm with hm | hm
            · exact hh h hm
            · rw [List.eq_of_mem_replicate hm]; exact hz2
          · intro h h2
            have := hcl h h2
            rw [List.count_append, List.count_replicate]
            by_cases e : h = z
            · subst e
              rw [upf_same]
              simp
              omega
            · rw [upf_ne e]
              have e2 : ¬ z = h := fun q => e q.symm
              simp [e2]
              omega
    · have cp : ¬ (0 : Int) < ((l 0 + l 1 : Nat) : Int) := of_decide_eq_false (Bool.eq_false_iff.mpr c)
      exact ⟨_, rfl, q fo hs Hw bw (ww.up (by omega)) H0fo hfw hh (fun h h2 => by have := hcl h h2; omega)⟩
  · intro k
    refine ⟨_, rfl, _, rfl, _, _, rfl, rfl, .inl ⟨by decide, by decide⟩, _, _, rfl, rfl, a, n, _, rfl, w0, by omega, by omega, by omega, fun r H2 r0 r1 b1 w1 => ?_⟩
    refine ⟨_, rfl, _, rfl, a, n + 1, 2, rfl, w1, by omega, by decide, by decide, fun r2 H3 p0 p1 b2 w2 => ?_⟩
    have hm3 : H3 mn = some (.lst [V.int (2 * (d : Int)), V.int (2 * (d : Int))]) := b2 _ _ nam.symm (b1 _ _ nam.symm hm1)
    have hr2 : r2.toNat < 2 := by omega
    have er2 : r2 = ((r2.toNat : Nat) : Int) := by omega
    refine ⟨mn, [V.int (2 * (d : Int)), V.int (2 * (d : Int))], r2, r2.toNat, rfl, rfl, hm3, by rw [er2]; exact ixN_two hr2, ?_⟩
    refine k _ ⟨((b0.trans b1).trans b2).upd hmn, (w2.upd nam).up (by omega), upf (fun _ => 2 * d) r2.toNat r.toNat, ?_, fun h hh => ?_⟩
    · rw [upd_same, e2d, ← ints_set (fun _ => 2 * d) hr2 r.toNat, show ((r.toNat : Nat) : Int) = r by omega]
    · unfold upf
      split
      · omega
      · exact Nat.le_refl _
end
end TA

set_option Elab.async false
set_option maxRecDepth 100000
set_option maxHeartbeats 4000000
namespace TA
open PySem L2 PyProof.Rows
set_option linter.unusedVariables false
theorem cut_last (xs : List V) (v : V) : cutV (xs ++ [v]) none (some (-1)) = xs := by
  unfold cutV
  have e1 : HT.sIx (xs ++ [v]).length 0 none = 0 := rfl
  have e2 : HT.sIx (xs ++ [v]).length (xs ++ [v]).length (some (-1)) = xs.length := by
    rw [List.length_append]
    simp [HT.sIx]
    omega
  rw [e1, e2, List.drop_zero, Nat.sub_zero, List.take_left]
theorem all_ints : ∀ hs : List Nat, PyData.canLayAll0 (hs.map fun h : Nat => PyData.int (h : Int)) = true ∧ PyData.depthAll (hs.map fun h : Nat => PyData.int (h : Int)) ≤ 1
  | [] => ⟨rfl, by simp only [List.map_nil, PyData.depthAll]; omega⟩
  | h :: r => by
    obtain ⟨a, b⟩ := all_ints r
    refine ⟨by rw [List.map_cons]; simp [PyData.canLayAll0, PyData.canLay0, a], ?_⟩
    rw [List.map_cons]
    simp only [PyData.depthAll, PyData.depth]
    omega
def hlD (hs : List Nat) : PyData := .list (hs.map fun h : Nat => PyData.int (h : Int))
theorem hlD_shaped (hs : List Nat) : SeqAt.shaped (hlD hs) = true := by
  obtain ⟨a, b⟩ := all_ints hs
  refine Ok.shaped ⟨?_, ?_⟩
  · unfold hlD
    simpa [PyData.canLay0] using a
  · unfold hlD
    simp only [PyData.depth]
    omega
theorem hl_dp {K : PySem.W.Frag} {H : Hp} : ∀ hs : List Nat, DpAll K H (hl hs) (hs.map fun h : Nat => PyData.int (h : Int))
  | [] => .nil
  | h :: r => .cons (.int (h : Int)) (hl_dp r)
theorem hlD_dp {K : PySem.W.Frag} {H : Hp} {p : Addr} {hs : List Nat} (h : H p = some (.lst (hl hs))) : Dp K H (.ref p) (hlD hs) := .lst (SqL.of h) (hl_dp hs)
theorem told_dp {K : PySem.W.Frag} {H : Hp} {o : Addr} {v : Nat → V} {a b : Int} {hs : List Nat} {d : Nat} (h : H o = some (.lst [v 0, v 1])) (k : ∀ h < 2, Kn H (v h) (((M0 a b).run hs).res d h)) : Dp K H (.ref o) (told a b hs d) :=
  .lst (SqL.of h) (.cons (k 0 (by decide)).dp (.cons (k 1 (by decide)).dp .nil))
/-- known(inputs, weaving, rounds = deep): how the arguments bind -/
abbrev KnB (K : PySem.W.Frag) (fd : FuncData) : Prop := KBn K fd ["inputs", "weaving", "rounds"] 2 ["rounds"] (fun us ws => us ++ ws) (fun vs zs => vs ++ zs)
structure KDef (P : Program) (w : World) (K : PySem.W.Frag) (mg : Str → Option Value) (base : Heap) (f : Addr) (fd : FuncData) : Prop where
  G : FnOk P w K mg base CX0 5 f fd ["inputs", "weaving", "rounds"] (spKnown K)
  b : KnB K fd
  k : PySem.W.keepIn K (.ref f) = true
  m : mg "known" = some (.ref f)
theorem kn_binds {K : PySem.W.Frag} {f : Addr} {fd : FuncData} (F : Fun K "known" "known" sKnown f fd) : KnB K fd := by
  obtain ⟨oc, od, kV, doc, pm, an, cdv, ct, osl, rfl, lk, hcd⟩ := F.ex
  refine ⟨fun s us ws _ h1 h2 => ?_, fun r q => r.append q⟩
  match us, ws, h1, h2 with
  | [_, _], [_], _, _ => exact .of_eq rfl
def spRight : Sp := fun vs H Q _ => ∃ a : Addr, vs = [.ref a] ∧ WellAt H a 0 ∧ ∀ H', But a H H' → Q (.bl true) H'
theorem join2 {b : Bool} {X : Prop} {R : L2.St → Hp → Prop} {σ : L2.St} {H : Hp} (Iv : L2.St → Hp → Prop) (h0 : Iv σ H) (k : ∀ σ Hc, Iv σ Hc → R σ Hc) (h1 : b = true → (∀ σ Hc, Iv σ Hc → R σ Hc) → X) : if b = true then X else R σ H := by
  cases b with
  | false => exact iteF (k σ H h0)
  | true => exact iteT (h1 rfl k)
/-- what stands behind the making of all that is compared -/
structure RS (H Hc : Hp) (a t wv du hn : Addr) (x y : Int) (hs : List Nat) (d : Nat) (v : Nat → V) : Prop where
  b : But a H Hc
  ht : Hc t = some (.tup [.int x, .int y])
  hw : Hc wv = some (.lst (hl hs))
  hu : Hc du = some (.lst [v 0, v 1])
  hk : ∀ h < 2, Kn Hc (v h) (((M0 x y).run hs).res d h)
theorem RS.same {H Hc H' : Hp} {a t wv du hn : Addr} {x y : Int} {hs : List Nat} {d : Nat} {v : Nat → V} (R : RS H Hc a t wv du hn x y hs d v) (s : Same Hc H') : RS H H' a t wv du hn x y hs d v :=
  ⟨R.b.trans (But.same s), s _ _ R.ht, s _ _ R.hw, s _ _ R.hu, fun h hh => (R.hk h hh).mono (Tups.same s)⟩
theorem RS.upd {H Hc : Hp} {a t wv du hn : Addr} {x y : Int} {hs : List Nat} {d : Nat} {v : Nat → V} {o : HO} {ws : List V} (R : RS H Hc a t wv du hn x y hs d v) (f : H hn = none) (hh : Hc hn = some (.lst ws)) (n1 : wv ≠ hn) (n2 : du ≠ hn) : RS H (L2.upd Hc hn o) a t wv du hn x y hs d v :=
  ⟨R.b.upd f, by rw [upd_ne (ne_of R.ht hh (fun q => by cases q))]; exact R.ht, by rw [upd_ne n1]; exact R.hw, by rw [upd_ne n2]; exact R.hu, fun h h2 => (R.hk h h2).mono (Tups.updL hh)⟩
section
variable {P : Program} {w : World} {K : PySem.W.Frag} {mg : Str → Option Value} {base : Heap}
abbrev nRight : List Str := ["_law_well_here", "_law_deep", "_law_most", "_law_inputs", "_law_weaving_here", "_law_handed", "_law_due", "_law_turn", "_law_found", "_law_last"]
theorem scRight : FnScope nRight ["_law_well_here"] (defScope sRight) := ⟨rfl, rfl, rfl, by decide +kernel, rfl, by decide +kernel, by decide +kernel⟩
theorem ok_right {f g1 g2 g3 g4 g5 : Addr} {fd d1 d2 d3 d4 d5 : FuncData} (F : Fun K "_law_right" "_law_right" sRight f fd) (T : Txt K mg) (D1 : Def P w K mg base "_law_draw" ["_law_well_here", "_law_many"] 1 spDraw2 g1 d1) (D2 : Def P w K mg base "_law_one" ["_law_well_here", "_law_some"] 2 spOne2 g2 d2)
    (D3 : Def P w K mg base "_law_weaving" ["_law_well_here", "_law_deep", "_law_stops"] 3 spLW g3 d3) (D4 : Def P w K mg base "_law_behind" ["_law_inputs", "_law_weaving_here", "_law_deep"] 1 (spBehind K) g4 d4) (D5 : KDef P w K mg base g5 d5) :
    FnOk P w K mg base CX0 6 f fd ["_law_well_here"] spRight := by
  refine F.ok scRight (fun vs H Q E h => ?_) (fun cdv A outer s H vs Q E hr h => ?_)
  · obtain ⟨a, rfl, _⟩ := h
    rfl
  obtain ⟨a, rfl, hW, q⟩ := h
  have nd := scRight.nd
  refine ⟨_, pss_cons (ps_set (i := 1) nd rfl (Or.inl rfl) (pe_call D1.G (hr.mono (by decide)) rfl D1.m D1.k D1.b .nil pass0 (pa_cons (pv 0) (pa_cons pe_int pa_nil))))
    (pss_cons (ps_set (i := 2) nd rfl (Or.inl rfl) (pe_call D2.G (hr.mono (by decide)) rfl D2.m D2.k D2.b .nil pass0 (pa_cons (pv 0) (pa_cons (pe_lst (pa_cons pe_int (pa_cons pe_int (pa_cons (pe_op op_pow pe_int pe_int) pa_nil)))) pa_nil))))
    (pss_cons (ps_set (i := 3) nd rfl (Or.inl rfl) (pe_tup (pa_cons (pe_call D1.G (hr.mono (by decide)) rfl D1.m D1.k D1.b .nil pass0 (pa_cons (pv 0) (pa_cons (pv 2) pa_nil))) (pa_cons (pe_call D1.G (hr.mono (by decide)) rfl D1.m D1.k D1.b .nil pass0 (pa_cons (pv 0) (pa_cons (pv 2) pa_nil))) pa_nil))))
    (pss_cons (ps_set (i := 4) nd rfl (Or.inl rfl) (pe_call D3.G (hr.mono (by decide)) rfl D3.m D3.k D3.b .nil pass0 (pa_cons (pv 0) (pa_cons (pv 1) (pa_cons (pe_cmpR op_eq (pe_call D1.G (hr.mono (by decide)) rfl D1.m D1.k D1.b .nil pass0 (pa_cons (pv 0) (pa_cons pe_int pa_nil))) pe_int (nomark _)) pa_nil)))))
    (pss_cons (ps_set (i := 5) nd rfl (Or.inl rfl) (pe_callTy call_list_of (by rfl) T.list boot_list (pa_cons (pv 4) pa_nil)))
    (pss_cons (ps_set (i := 6) nd rfl (Or.inl rfl) (pe_call D4.G (hr.mono (by decide)) rfl D4.m D4.k D4.b .nil pass0 (pa_cons (pv 3) (pa_cons (pv 4) (pa_cons (pv 1) pa_nil)))))
    (pss_cons (ps_for PassesOwn.never rfl (pi_range1 rfl T.range (pa_cons pe_int pa_nil)) (pg_name (i := 7) nd rfl (Or.inl rfl))
      (pss_cons (ps_set (i := 8) nd rfl (Or.inl rfl) (pe_callN D5.G hr rfl D5.m D5.k D5.b pass0 (pa_cons (pv 3) (pa_cons (pv 5) pa_nil)) (pk_cons (pv 1) pk_nil)))
      (pss_cons (ps_if (PW.pt (pw_or (pt_not (pt_val (pe_callB call_isi (by rfl) T.isi boot_isinstance (pa_cons (pv 8) (pa_cons (pe_bltn (v := .ty "list") (by rfl) T.list boot_list rfl) pa_nil))))) (pw_or (pt_cmpR (op_neD hr.units) (pv 8) (pv 6) (nomark _)) (pw_or1 (pt_cmpR (op_neD hr.units) (pv 5) (pv 4) (nomark _)))))) (pss_one (ps_ret pe_bl)) pss_nil)
      (pss_one (ps_expr (pe_bm0 PySem.F.plainAttrs_list PySem.F.slot_list_clear PySem.F.type_list_clear mt_clear (pv 8)))))))
    (pss_cons (ps_if (pt_cmpR (op_neD hr.units) (pv 5) (pe_lst pa_nil) (nomark _))
      (pss_cons (ps_set (i := 9) nd rfl (Or.inl rfl) (pe_bm0 PySem.F.plainAttrs_list PySem.F.slot_list_pop PySem.F.type_list_pop mt_pop (pv 5)))
      (pss_cons (ps_if (pt_cmpR (op_neD hr.units) (pe_callN D5.G hr rfl D5.m D5.k D5.b pass0 (pa_cons (pv 3) (pa_cons (pv 5) pa_nil)) (pk_cons (pv 1) pk_nil)) (pe_call D4.G (hr.mono (by decide)) rfl D4.m D4.k D4.b .nil pass0 (pa_cons (pv 3) (pa_cons (pe_slice sl_list (pv 4) po_none (po_some (pe_un un_neg pe_int))) (pa_cons (pv 1) pa_nil)))) (nomark _)) (pss_one (ps_ret pe_bl)) pss_nil)
      (pss_cons (ps_expr (pe_bm PySem.F.plainAttrs_list PySem.F.slot_list_insert PySem.F.type_list_insert mt_insert (pv 5) (pa_cons pe_int (pa_cons (pv 9) pa_nil))))
      (pss_one (ps_if (pt_cmpR (op_neD hr.units) (pe_callN D5.G hr rfl D5.m D5.k D5.b pass0 (pa_cons (pv 3) (pa_cons (pv 5) pa_nil)) (pk_cons (pv 1) pk_nil)) (pe_call D4.G (hr.mono (by decide)) rfl D4.m D4.k D4.b .nil pass0 (pa_cons (pv 3) (pa_cons (pe_op op_cat (pe_lst (pa_cons (pv 9) pa_nil)) (pe_slice sl_list (pv 4) po_none (po_some (pe_un un_neg pe_int)))) (pa_cons (pv 1) pa_nil)))) (nomark _)) (pss_one (ps_ret pe_bl)) pss_nil))))) pss_nil)
    (pss_one (ps_ret (pe_cmpR (op_eqD hr.units) (pe_callN D5.G hr rfl D5.m D5.k D5.b pass0 (pa_cons (pv 3) (pa_cons (pe_lst pa_nil) pa_nil)) (pk_cons pe_int pk_nil)) (pe_callTy call_list_of (by rfl) T.list boot_list (pa_cons (pv 3) pa_nil)) (nomark _)))))))))))
, ?_⟩
  refine ⟨_, rfl, a, 0, 6, rfl, hW, by decide, by decide, by decide, fun r H1 r0 r1 b1 w1 => ?_⟩
  obtain ⟨d, rfl, hd⟩ : ∃ d : Nat, r = (d : Int) ∧ d ≤ 5 := ⟨r.toNat, by omega, by omega⟩
  refine ⟨_, rfl, _, _, rfl, rfl, ⟨by decide, by decide, by decide⟩, (by show 3 ≤ sizeLine; decide), fun l hl0 => ?_⟩
  obtain ⟨xa, ya, za, ea, _⟩ := id w1
  have s1 := same_new hl0 (.lst [V.int 4, V.int 10, V.int (10 ^ (20 : Int).toNat)])
  refine ⟨a, l, _, _, rfl, w1.same s1, by decide, upd_same, ne_of_none ea hl0, by decide, by decide, fun i v H2 hv b2 w2 => ?_⟩
  obtain ⟨m, rfl, m0, m1⟩ : ∃ m : Int, v = .int m ∧ 0 < m ∧ m < 2 ^ 100 := by
    rcases i with _ | _ | _ | i
    · exact ⟨4, by simpa using hv.symm, by decide, by decide⟩
    · exact ⟨10, by simpa using hv.symm, by decide, by decide⟩
    · exact ⟨10 ^ (20 : Int).toNat, by simpa using hv.symm, by decide, by decide⟩
    · simp at hv
  refine ⟨_, rfl, _, rfl, a, _, m, rfl, w2, by decide, m0, m1, fun x H3 x0 x1 b3 w3 => ?_⟩
  refine ⟨_, rfl, _, rfl, a, _, m, rfl, w3, by decide, m0, m1, fun y H4 y0 y1 b4 w4 => ?_⟩
  refine ⟨(by show 2 ≤ sizeLine; decide), fun t ht0 => ?_⟩
  have s5 := same_new ht0 (.tup [V.int x, V.int y])
  have w5 := w4.same s5
  obtain ⟨xb, yb, zb, eb, _⟩ := id w4
  have nat' : a ≠ t := ne_of_none eb ht0
  have ht5 : (upd H4 t (.tup [V.int x, V.int y])) t = some (.tup [V.int x, V.int y]) := upd_same
  have b5 : But a H (upd H4 t (.tup [V.int x, V.int y])) := (((b1.trans (But.same s1)).trans b2).trans (b3.trans b4)).trans (But.same s5)
  refine ⟨_, rfl, _, rfl, _, rfl, a, _, 2, rfl, w5, by decide, by decide, by decide, fun s2 H6 p0 p1 b6 w6 => ?_⟩
  refine ⟨rfl, a, _, d, _, rfl, w6, by decide, hd, fun wv hs H7 b7 w7 hwv0 hwv hh hc => ?_⟩
  have c0 := hc 0 (by decide)
  have c1 := hc 1 (by decide)
  have hlen := len_counts hs hh
  have b57 := b6.trans b7
  have ht7 : H7 t = _ := b57 _ _ nat'.symm ht5
  refine ⟨_, rfl, wv, _, rfl, .inl (SqL.of hwv), fun hn hhn => ?_⟩
  have s8 := same_new hhn (.lst (hl hs))
  have Hhn : H hn = none := (b5.trans b57).free w7 hhn
  have nwh : wv ≠ hn := ne_of_none hwv hhn
  have hnn : (upd H7 hn (.lst (hl hs))) hn = some (.lst (hl hs)) := upd_same
  refine ⟨_, rfl, _, rfl, _, rfl, wv, hs, d, x, y, ⟨t, rfl, s8 _ _ ht7, SqL.of (s8 _ _ hwv)⟩, hh, hc, by omega, hd, x0, y0, fun du v H9 s9 hdu0 hdu hk => ?_⟩
  have nuh : du ≠ hn := (ne_of_none hnn hdu0).symm
  have hn9 : H9 hn = some (.lst (hl hs)) := s9 _ _ hnn
  have R9 : RS H H9 a t wv du hn x y hs d v := ⟨((b5.trans b57).trans (But.same s8)).trans (But.same s9), s9 _ _ (s8 _ _ ht7), s9 _ _ (s8 _ _ hwv), hdu, hk⟩
  have sh := told_shaped x y hh (by omega) d
  have shl := hlD_shaped hs
  refine ⟨2, rfl, by decide, by decide, for_range (n := 2) (fun i σ Hc => ∃ g7 g8, σ = [some (.ref a), some (.int (d : Int)), some (.int m), some (.ref t), some (.ref wv), some (.ref hn), some (.ref du), g7, g8, none] ∧ RS H Hc a t wv du hn x y hs d v ∧ Hc hn = some (.lst (hl hs))) ⟨none, none, rfl, R9, hn9⟩ ?_ ?_⟩
  · rintro i σ Hc _ ⟨g7, g8, rfl, R, hh1⟩
    refine ⟨_, rfl, _, rfl, _, rfl, rfl, rfl, hn, hs, d, x, y, ⟨t, rfl, R.ht, SqL.of hh1⟩, hh, hc, by omega, hd, x0, y0, fun o v2 Ho so ho0 ho hko => ?_⟩
    have R2 := R.same so
    refine ⟨_, rfl, .ref o, .ty "list", _, _, true, rfl, .ty "list", .base (.lst ho), kit_ty (by decide +kernel), true, rfl, iteF ?_⟩
    refine ⟨_, rfl, _, rfl, told x y hs d, told x y hs d, told_dp ho hko, told_dp R2.hu R2.hk, sh, sh, _, rfl, ?_⟩
    rw [eqv_self sh]
    refine iteF ⟨_, rfl, _, rfl, hlD hs, hlD hs, hlD_dp (so _ _ hh1), hlD_dp R2.hw, shl, shl, _, rfl, ?_⟩
    rw [eqv_self shl]
    refine iteF ⟨_, rfl, .inl ⟨rfl, _, SqL.of ho⟩, o, _, rfl, rfl, ho, ?_⟩
    have s3 := same_upd (o := .lst []) so ho0
    exact ⟨_, _, rfl, R.same s3, s3 _ _ hh1⟩
  · rintro σ Hc ⟨g7, g8, rfl, R, hh1⟩
    have R1 := R
    refine ⟨_, rfl, Nat.zero_le _, fun e he => ?_⟩
    have se := same_new he (.lst [])
    refine ⟨hlD hs, hlD [], hlD_dp (se _ _ hh1), hlD_dp upd_same, shl, hlD_shaped [], _, rfl, ?_⟩
    have R2 := R.same se
    have hh2 := se _ _ hh1
    refine join2 (fun σ Hc => ∃ g9, σ = [some (.ref a), some (.int (d : Int)), some (.int m), some (.ref t), some (.ref wv), some (.ref hn), some (.ref du), g7, g8, g9] ∧ RS H Hc a t wv du hn x y hs d v) ⟨none, rfl, R2⟩ ?_ ?_
    · rintro σ Hc ⟨g9, rfl, R⟩
      refine ⟨_, rfl, Nat.zero_le _, fun e2 he2 => ?_⟩
      have s2 := same_new he2 (.lst [])
      refine ⟨rfl, rfl, e2, [], 0, x, y, ⟨t, rfl, s2 _ _ R.ht, SqL.of upd_same⟩, (fun h q => by cases q), (fun h _ => Nat.le_refl _), Nat.zero_le _, Nat.zero_le _, x0, y0, fun o v2 Ho so ho0 ho hko => ?_⟩
      refine ⟨_, rfl, t, _, rfl, .inr (SqT.of (so _ _ (s2 _ _ R.ht))), fun l2 hl2 => ?_⟩
      have s3 := same_new hl2 (.lst [V.int x, V.int y])
      have sh0 := told_shaped x y (hs := []) (fun h q => by cases q) (Nat.zero_le _) 0
      refine ⟨told x y [] 0, told x y [] 0, told_dp (s3 _ _ ho) (fun h h2 => (hko h h2).mono (Tups.same s3)), .lst (SqL.of upd_same) (.cons (.int x) (.cons (.int y) .nil)), sh0, sh0, ?_⟩
      rw [eqv_self sh0]
      exact q _ (((R.b.trans (But.same s2)).trans (But.same so)).trans (But.same s3))
    · intro hne k
      have hs_ne : hs ≠ [] := fun e0 => by
        subst e0
        rw [eqv_self shl] at hne
        cases hne
      obtain ⟨hs0, z, rfl⟩ : ∃ hs0 z, hs = hs0 ++ [z] := ⟨hs.dropLast, hs.getLast hs_ne, (List.dropLast_concat_getLast hs_ne).symm⟩
      have hh0 : ∀ h ∈ hs0, h < 2 := fun h hm => hh h (List.mem_append_left _ hm)
      have hz2 : z < 2 := hh z (List.mem_append_right _ List.mem_cons_self)
      have hc0' : ∀ h < 2, hs0.count h ≤ 2 * d := fun h h2 => by
        have := hc h h2
        rw [List.count_append] at this
        omega
      have hlen0 : hs0.length + 1 = (hs0 ++ [z]).length := by rw [List.length_append]; rfl
      have hh3 := hh2
      rw [← hl_snoc] at hh3
      have hw3 := R2.hw
      rw [← hl_snoc] at hw3
      have lenl : (hl hs0).length = hs0.length := List.length_map _
      refine ⟨_, rfl, .inl ⟨rfl, _, SqL.of hh3⟩, hn, _, .int (z : Int), rfl, rfl, hh3, (by rw [List.length_append]; simp), ?_⟩
      rw [List.dropLast_concat]
      have R4 : RS H (upd (upd Hc e (.lst [])) hn (.lst (hl hs0))) a t wv du hn x y (hs0 ++ [z]) d v := R2.upd Hhn hh3 nwh nuh
      have hh4 : (upd (upd Hc e (.lst [])) hn (.lst (hl hs0))) hn = some (.lst (hl hs0)) := upd_same
      generalize upd (upd Hc e (.lst [])) hn (.lst (hl hs0)) = H4' at R4 hh4 ⊢
      refine ⟨_, rfl, _, rfl, _, rfl, rfl, rfl, hn, hs0, d, x, y, ⟨t, rfl, R4.ht, SqL.of hh4⟩, hh0, hc0', by omega, hd, x0, y0, fun o v2 Ho so ho0 ho hko => ?_⟩
      have R5 := R4.same so
      have hw5 := R5.hw
      rw [← hl_snoc] at hw5
      refine ⟨_, rfl, _, rfl, _, rfl, _, rfl, wv, _, rfl, SqL.of hw5, fun sl hsl => ?_⟩
      rw [cut_last]
      have s6 := same_new hsl (.lst (hl hs0))
      refine ⟨_, rfl, sl, hs0, d, x, y, ⟨t, rfl, s6 _ _ R5.ht, SqL.of upd_same⟩, hh0, hc0', by omega, hd, x0, y0, fun o3 v3 H7' s7 ho30 ho3 hk3 => ?_⟩
      have sh1 := told_shaped x y hh0 (by omega) d
      have s67 := s6.trans s7
      refine ⟨told x y hs0 d, told x y hs0 d, told_dp (s67 _ _ ho) (fun h h2 => (hko h h2).mono (Tups.same s67)), told_dp ho3 hk3, sh1, sh1, _, rfl, ?_⟩
      rw [eqv_self sh1]
      refine iteF ?_
      have R7 := R5.same s67
      have hh7 := s67 _ _ (so _ _ hh4)
      refine ⟨_, rfl, .inl ⟨rfl, _, SqL.of hh7⟩, _, rfl, hn, _, 0, _, rfl, rfl, hh7, (by rw [lenl]; exact Nat.lt_of_le_of_lt (show hs0.length ≤ 40 by omega) (by decide)), Int.le_refl 0, by decide, ?_⟩
      have R8 : RS H (upd H7' hn (.lst ((hl hs0).take (0 : Int).toNat ++ [V.int (z : Int)] ++ (hl hs0).drop (0 : Int).toNat))) a t wv du hn x y (hs0 ++ [z]) d v := R7.upd Hhn hh7 nwh nuh
      have hh8 : (upd H7' hn (.lst ((hl hs0).take (0 : Int).toNat ++ [V.int (z : Int)] ++ (hl hs0).drop (0 : Int).toNat))) hn = some (.lst (hl (z :: hs0))) := by
        rw [upd_same]
        rfl
      generalize upd H7' hn (.lst ((hl hs0).take (0 : Int).toNat ++ [V.int (z : Int)] ++ (hl hs0).drop (0 : Int).toNat)) = H8' at R8 hh8 ⊢
      have hhz : ∀ h ∈ z :: hs0, h < 2 := fun h hm => by
        rcases List.mem_cons.mp hm with e1 | e1
        · rw [e1]; exact hz2
        · exact hh0 h e1
      have hcz : ∀ h < 2, (z :: hs0).count h ≤ 2 * d := fun h h2 => by
        have := hc h h2
        rw [List.count_append] at this
        rw [List.count_cons]
        rw [List.count_cons, List.count_nil] at this
        omega
      have hlz : (z :: hs0).length ≤ 40 := by rw [List.length_cons]; omega
      refine ⟨_, rfl, _, rfl, _, rfl, rfl, rfl, hn, z :: hs0, d, x, y, ⟨t, rfl, R8.ht, SqL.of hh8⟩, hhz, hcz, hlz, hd, x0, y0, fun o5 v5 H9' s9' ho50 ho5 hk5 => ?_⟩
      have R9' := R8.same s9'
      have hw9 := R9'.hw
      rw [← hl_snoc] at hw9
      refine ⟨_, rfl, _, rfl, (by show 1 ≤ sizeLine; decide), fun l1 hl1 => ?_⟩
      have t1 := same_new hl1 (.lst [V.int (z : Int)])
      refine ⟨_, rfl, _, rfl, _, rfl, wv, _, rfl, SqL.of (t1 _ _ hw9), fun sl2 hsl2 => ?_⟩
      rw [cut_last]
      have t2 := same_new hsl2 (.lst (hl hs0))
      refine ⟨l1, sl2, _, _, rfl, rfl, t2 _ _ upd_same, upd_same, (by rw [lenl]; exact small13 (by show 1 + _ ≤ _; omega)), fun ct hct => ?_⟩
      have t3 := same_new hct (.lst ([V.int (z : Int)] ++ hl hs0))
      have t123 := t1.trans (t2.trans t3)
      refine ⟨_, rfl, ct, z :: hs0, d, x, y, ⟨t, rfl, t123 _ _ R9'.ht, SqL.of upd_same⟩, hhz, hcz, hlz, hd, x0, y0, fun o6 v6 H10 s10 ho60 ho6 hk6 => ?_⟩
      have shz := told_shaped x y hhz (by omega) d
      have u := t123.trans s10
      refine ⟨told x y (z :: hs0) d, told x y (z :: hs0) d, told_dp (u _ _ ho5) (fun h h2 => (hk5 h h2).mono (Tups.same u)), told_dp ho6 hk6, shz, shz, _, rfl, ?_⟩
      rw [eqv_self shz]
      refine iteF ?_
      exact k _ _ ⟨_, rfl, R9'.same u⟩
end
end TA

set_option Elab.async false
set_option maxRecDepth 100000
set_option maxHeartbeats 4000000
namespace TA
open PySem L2 PyProof.Rows
set_option linter.unusedVariables false
def spLaw (K : PySem.W.Frag) : Sp := fun vs H Q _ => ∃ (a : Addr) (ns : List Int), vs = [.ref a] ∧ SqL K H a (ns.map V.int) ∧ ns.length ≤ 63 ∧ ∀ H', Q (.bl true) H'
theorem scLaw : FnScope ["_law_script", "_law_cell"] ["_law_script"] (defScope sLaw) := ⟨rfl, rfl, rfl, by decide +kernel, rfl, by decide +kernel, by decide +kernel⟩
theorem cut_ints {ns : List Int} {lo hi : Option Int} {x : V} (h : x ∈ cutV (ns.map V.int) lo hi) : ∃ c : Int, x = .int c := by
  unfold cutV at h
  have h1 := List.mem_of_mem_drop (List.mem_of_mem_take h)
  obtain ⟨c, _, e⟩ := List.mem_map.mp h1
  exact ⟨c, e.symm⟩
section
variable {P : Program} {w : World} {K : PySem.W.Frag} {mg : Str → Option Value} {base : Heap}
theorem ok_law {f g1 g2 g3 : Addr} {fd d1 d2 d3 : FuncData} (F : Fun K "law" "law" sLaw f fd) (D1 : Def P w K mg base "_law_cell_at" ["_law_script", "_law_k"] 1 (spCell K) g1 d1) (D2 : Def P w K mg base "_law_well" ["_law_cell"] 1 spWell g2 d2) (D3 : Def P w K mg base "_law_right" ["_law_well_here"] 6 spRight g3 d3) :
    FnOk P w K mg base CX0 7 f fd ["_law_script"] (spLaw K) := by
  refine F.ok scLaw (fun vs H Q E h => ?_) (fun cdv A outer s H vs Q E hr h => ?_)
  · obtain ⟨a, ns, rfl, _⟩ := h
    rfl
  obtain ⟨a, ns, rfl, hS, h63, q⟩ := h
  have nd := scLaw.nd
  refine ⟨_, pss_cons (ps_for PassesOwn.never rfl (pi_list (pe_op op_cat (pe_lst (pa_cons (pe_call D1.G (hr.mono (by decide)) rfl D1.m D1.k D1.b .nil pass0 (pa_cons (pv 0) (pa_cons pe_int pa_nil))) pa_nil)) (pe_slice sl_list (pv 0) (po_some pe_int) (po_some pe_int)))) (pg_name (i := 1) nd rfl (Or.inl rfl))
      (pss_one (ps_if (pt_not (pt_val (pe_call D3.G hr rfl D3.m D3.k D3.b .nil pass0 (pa_cons (pe_call D2.G (hr.mono (by decide)) rfl D2.m D2.k D2.b .nil pass0 (pa_cons (pv 1) pa_nil)) pa_nil)))) (pss_one (ps_ret pe_bl)) pss_nil)))
    (pss_one (ps_ret pe_bl)), ?_⟩
  refine ⟨_, rfl, a, ns, 0, rfl, hS, by omega, Int.le_refl 0, fun c => ⟨(by show 1 ≤ sizeLine; decide), fun l hl0 => ?_⟩⟩
  have s1 := same_new hl0 (.lst [V.int c])
  refine ⟨_, rfl, _, rfl, _, rfl, a, _, rfl, s1.seq hS, fun p hp => ?_⟩
  have s2 := same_new hp (.lst (cutV (ns.map V.int) (some 1) (some 10)))
  have hcl := cutV_length (ns.map V.int) (some 1) (some 10)
  rw [List.length_map] at hcl
  refine ⟨l, p, _, _, rfl, rfl, s2 _ _ upd_same, upd_same, small13 (by show 1 + _ ≤ _; omega), fun ct hct => ?_⟩
  refine ⟨ct, rfl, ⟨_, SqL.of upd_same⟩, for_list (K := K) (a := ct) (xs := [V.int c] ++ cutV (ns.map V.int) (some 1) (some 10)) (fun i σ Hc => ∃ g, σ = [some (.ref a), g] ∧ Hc ct = some (.lst ([V.int c] ++ cutV (ns.map V.int) (some 1) (some 10)))) ⟨none, rfl, upd_same⟩ ?_ ?_ ?_⟩
  · rintro i σ Hc _ ⟨g, _, h⟩
    exact SqL.of h
  · rintro i x σ Hc hx ⟨g, rfl, h⟩
    obtain ⟨z, rfl⟩ : ∃ z : Int, x = .int z := by
      rcases List.mem_append.mp (List.mem_of_getElem? hx) with m | m
      · exact ⟨c, by simpa using m⟩
      · exact cut_ints m
    refine ⟨_, rfl, z, rfl, fun w x y hw hx hy hy2 => ?_⟩
    have nw : ct ≠ w := ne_of_none h hw
    refine ⟨w, rfl, ⟨x, y, 0, upd_same, hx, hy, hy2, Int.le_refl 0, Int.le_refl 0⟩, fun H' b => ?_⟩
    refine ⟨true, rfl, iteF ?_⟩
    exact ⟨_, rfl, b _ _ nw (by rw [upd_ne nw]; exact h)⟩
  · rintro σ Hc ⟨g, rfl, h⟩
    exact q _
end
end TA

set_option Elab.async false
set_option maxRecDepth 100000
set_option maxHeartbeats 4000000
namespace TA
open PySem L2 PyProof.Rows
set_option linter.unusedVariables false
theorem all_mk {l : PySem.W.OpenLaw} {w : World} {K : PySem.W.Frag} {h : Heap} {mg : Str → Option Value} {fa f1 f2 f3 f4 f5 f6 f7 f8 f9 f10 f11 f12 f13 f14 f15 hA0: Addr} (X : K.In h) (G : h.Ns mainGlobals mg) (hfa : mg "law" = some (.ref fa))
    {od1 an1 od2 an2 od3 an3 od4 an4 od5 an5 od6 an6 od7 an7 od8 an8 od9 an9 od10 an10 od11 an11 od12 an12 od13 an13 od14 an14 od15 an15 odH0 : Option Addr} {sl1 sl2 sl3 sl4 sl5 sl6 sl7 sl8 sl9 sl10 sl11 sl12 sl13 sl14 sl15 slH0 : Array (Option Value)} {oc1 kV1 dc1 pm1 cd1 ct1 oc2 kV2 dc2 pm2 cd2 ct2 oc3 kV3 dc3 pm3 cd3 ct3 oc4 kV4 dc4 pm4 cd4 ct4 oc5 kV5 dc5 pm5 cd5 ct5 oc6 kV6 dc6 pm6 cd6 ct6 oc7 kV7 dc7 pm7 cd7 ct7 oc8 kV8 dc8 pm8 cd8 ct8 oc9 kV9 dc9 pm9 cd9 ct9 oc10 kV10 dc10 pm10 cd10 ct10 oc11 kV11 dc11 pm11 cd11 ct11 oc12 kV12 dc12 pm12 cd12 ct12 oc13 kV13 dc13 pm13 cd13 ct13 oc14 kV14 dc14 pm14 cd14 ct14 oc15 kV15 dc15 pm15 cd15 ct15 : Value} {tI0 tI1 tT0_0 tT0_1 : Tok} {nH0 : Nat}
    (a1 : PySem.W.nsIn K mainGlobals "is_whole" = some (some (.ref f1))) (l1 : K.lookup f1 = some ⟨oc1, od1, .func (PySem.W.fnOf "is_whole" "is_whole" (defArgs sWhole) (defBody sWhole) (defScope sWhole) .none kV1 dc1 pm1 an1 cd1 ct1), sl1⟩) (c1 : PySem.W.codeIn K cd1 "is_whole" = true) (k1 : PySem.W.keepIn K (.ref f1) = true)
    (a2 : PySem.W.nsIn K mainGlobals "is_whole_within" = some (some (.ref f2))) (l2 : K.lookup f2 = some ⟨oc2, od2, .func (PySem.W.fnOf "is_whole_within" "is_whole_within" (defArgs sWithin) (defBody sWithin) (defScope sWithin) .none kV2 dc2 pm2 an2 cd2 ct2), sl2⟩) (c2 : PySem.W.codeIn K cd2 "is_whole_within" = true) (k2 : PySem.W.keepIn K (.ref f2) = true)
    (a3 : PySem.W.nsIn K mainGlobals "is_hand" = some (some (.ref f3))) (l3 : K.lookup f3 = some ⟨oc3, od3, .func (PySem.W.fnOf "is_hand" "is_hand" (defArgs sHand) (defBody sHand) (defScope sHand) .none kV3 dc3 pm3 an3 cd3 ct3), sl3⟩) (c3 : PySem.W.codeIn K cd3 "is_hand" = true) (k3 : PySem.W.keepIn K (.ref f3) = true)
    (a4 : PySem.W.nsIn K mainGlobals "is_inputs" = some (some (.ref f4))) (l4 : K.lookup f4 = some ⟨oc4, od4, .func (PySem.W.fnOf "is_inputs" "is_inputs" (defArgs sInputs) (defBody sInputs) (defScope sInputs) .none kV4 dc4 pm4 an4 cd4 ct4), sl4⟩) (c4 : PySem.W.codeIn K cd4 "is_inputs" = true) (k4 : PySem.W.keepIn K (.ref f4) = true)
    (a5 : PySem.W.nsIn K mainGlobals "is_weaving" = some (some (.ref f5))) (l5 : K.lookup f5 = some ⟨oc5, od5, .func (PySem.W.fnOf "is_weaving" "is_weaving" (defArgs sWeaving) (defBody sWeaving) (defScope sWeaving) .none kV5 dc5 pm5 an5 cd5 ct5), sl5⟩) (c5 : PySem.W.codeIn K cd5 "is_weaving" = true) (k5 : PySem.W.keepIn K (.ref f5) = true)
    (a6 : PySem.W.nsIn K mainGlobals "put_in" = some (some (.ref f6))) (l6 : K.lookup f6 = some ⟨oc6, od6, .func (PySem.W.fnOf "put_in" "put_in" (defArgs sPut) (defBody sPut) (defScope sPut) .none kV6 dc6 pm6 an6 cd6 ct6), sl6⟩) (c6 : PySem.W.codeIn K cd6 "put_in" = true) (k6 : PySem.W.keepIn K (.ref f6) = true)
    (a7 : PySem.W.nsIn K mainGlobals "known" = some (some (.ref f7))) (l7 : K.lookup f7 = some ⟨oc7, od7, .func (PySem.W.fnOf "known" "known" (defArgs sKnown) (defBody sKnown) (defScope sKnown) .none kV7 dc7 pm7 an7 cd7 ct7), sl7⟩) (c7 : PySem.W.codeIn K cd7 "known" = true) (k7 : PySem.W.keepIn K (.ref f7) = true)
    (a8 : PySem.W.nsIn K mainGlobals "_law_cell_at" = some (some (.ref f8))) (l8 : K.lookup f8 = some ⟨oc8, od8, .func (PySem.W.fnOf "_law_cell_at" "_law_cell_at" (defArgs sCell) (defBody sCell) (defScope sCell) .none kV8 dc8 pm8 an8 cd8 ct8), sl8⟩) (c8 : PySem.W.codeIn K cd8 "_law_cell_at" = true) (k8 : PySem.W.keepIn K (.ref f8) = true)
    (a9 : PySem.W.nsIn K mainGlobals "_law_well" = some (some (.ref f9))) (l9 : K.lookup f9 = some ⟨oc9, od9, .func (PySem.W.fnOf "_law_well" "_law_well" (defArgs sWell) (defBody sWell) (defScope sWell) .none kV9 dc9 pm9 an9 cd9 ct9), sl9⟩) (c9 : PySem.W.codeIn K cd9 "_law_well" = true) (k9 : PySem.W.keepIn K (.ref f9) = true)
    (a10 : PySem.W.nsIn K mainGlobals "_law_draw" = some (some (.ref f10))) (l10 : K.lookup f10 = some ⟨oc10, od10, .func (PySem.W.fnOf "_law_draw" "_law_draw" (defArgs sDraw) (defBody sDraw) (defScope sDraw) .none kV10 dc10 pm10 an10 cd10 ct10), sl10⟩) (c10 : PySem.W.codeIn K cd10 "_law_draw" = true) (k10 : PySem.W.keepIn K (.ref f10) = true)
    (a11 : PySem.W.nsIn K mainGlobals "_law_one" = some (some (.ref f11))) (l11 : K.lookup f11 = some ⟨oc11, od11, .func (PySem.W.fnOf "_law_one" "_law_one" (defArgs sOne) (defBody sOne) (defScope sOne) .none kV11 dc11 pm11 an11 cd11 ct11), sl11⟩) (c11 : PySem.W.codeIn K cd11 "_law_one" = true) (k11 : PySem.W.keepIn K (.ref f11) = true)
    (a12 : PySem.W.nsIn K mainGlobals "_law_behind" = some (some (.ref f12))) (l12 : K.lookup f12 = some ⟨oc12, od12, .func (PySem.W.fnOf "_law_behind" "_law_behind" (defArgs sBehind) (defBody sBehind) (defScope sBehind) .none kV12 dc12 pm12 an12 cd12 ct12), sl12⟩) (c12 : PySem.W.codeIn K cd12 "_law_behind" = true) (k12 : PySem.W.keepIn K (.ref f12) = true)
    (a13 : PySem.W.nsIn K mainGlobals "_law_weaving" = some (some (.ref f13))) (l13 : K.lookup f13 = some ⟨oc13, od13, .func (PySem.W.fnOf "_law_weaving" "_law_weaving" (defArgs sLawWeav) (defBody sLawWeav) (defScope sLawWeav) .none kV13 dc13 pm13 an13 cd13 ct13), sl13⟩) (c13 : PySem.W.codeIn K cd13 "_law_weaving" = true) (k13 : PySem.W.keepIn K (.ref f13) = true)
    (a14 : PySem.W.nsIn K mainGlobals "_law_right" = some (some (.ref f14))) (l14 : K.lookup f14 = some ⟨oc14, od14, .func (PySem.W.fnOf "_law_right" "_law_right" (defArgs sRight) (defBody sRight) (defScope sRight) .none kV14 dc14 pm14 an14 cd14 ct14), sl14⟩) (c14 : PySem.W.codeIn K cd14 "_law_right" = true) (k14 : PySem.W.keepIn K (.ref f14) = true)
    (a15 : PySem.W.nsIn K mainGlobals "law" = some (some (.ref f15))) (l15 : K.lookup f15 = some ⟨oc15, od15, .func (PySem.W.fnOf "law" "law" (defArgs sLaw) (defBody sLaw) (defScope sLaw) .none kV15 dc15 pm15 an15 cd15 ct15), sl15⟩) (c15 : PySem.W.codeIn K cd15 "law" = true) (k15 : PySem.W.keepIn K (.ref f15) = true)
    (z0 : PySem.W.nsIn K mainGlobals "isinstance" = some none)
    (z1 : PySem.W.nsIn K mainGlobals "int" = some none)
    (z2 : PySem.W.nsIn K mainGlobals "bool" = some none)
    (z3 : PySem.W.nsIn K mainGlobals "len" = some none)
    (z4 : PySem.W.nsIn K mainGlobals "range" = some none)
    (z5 : PySem.W.nsIn K mainGlobals "list" = some none)
    (z6 : PySem.W.nsIn K mainGlobals "tuple" = some none)
    (z7 : PySem.W.nsIn K mainGlobals "all" = some none)
    (z8 : PySem.W.nsIn K mainGlobals "sum" = some none)
    (z9 : PySem.W.nsIn K mainGlobals "min" = some none)
    (i0 : PySem.W.nsIn K mainGlobals "STEPS" = some (some (.int 2 tI0)))
    (i1 : PySem.W.nsIn K mainGlobals "MOST_ROUNDS" = some (some (.int 5 tI1)))
    (t0 : PySem.W.nsIn K mainGlobals "HANDS" = some (some (.ref hA0))) (u0 : K.lookup hA0 = some ⟨.type "tuple", odH0, .seq (Array.mk [.int 0 tT0_0, .int 1 tT0_1]) nH0, slH0⟩)
    : ∃ fd : FuncData, (∀ (s : Shared) (v : Value), BindsTo s fd ⟨[v], []⟩ [("_law_script", v)]) ∧ ∀ base : Heap, K.In base → base.Ns mainGlobals mg → FnOk l.prog w K mg base CX0 7 fa fd ["_law_script"] (spLaw K) := by
  have e := hfa.symm.trans (PySem.W.mg_of X G a15)
  cases e
  have F1 := fun_mk (st := sWhole) l1 c1 k1
  have b1 := F1.binds (ps := ["thing"]) fun _ _ _ _ _ _ us hl => match us, hl with | [_], _ => rfl
  have F2 := fun_mk (st := sWithin) l2 c2 k2
  have b2 := F2.binds (ps := ["thing", "least", "most"]) fun _ _ _ _ _ _ us hl => match us, hl with | [_, _, _], _ => rfl
  have F3 := fun_mk (st := sHand) l3 c3 k3
  have b3 := F3.binds (ps := ["thing"]) fun _ _ _ _ _ _ us hl => match us, hl with | [_], _ => rfl
  have F4 := fun_mk (st := sInputs) l4 c4 k4
  have b4 := F4.binds (ps := ["thing"]) fun _ _ _ _ _ _ us hl => match us, hl with | [_], _ => rfl
  have F5 := fun_mk (st := sWeaving) l5 c5 k5
  have b5 := F5.binds (ps := ["thing", "rounds"]) fun _ _ _ _ _ _ us hl => match us, hl with | [_, _], _ => rfl
  have F6 := fun_mk (st := sPut) l6 c6 k6
  have b6 := F6.binds (ps := ["cells", "at"]) fun _ _ _ _ _ _ us hl => match us, hl with | [_, _], _ => rfl
  have F7 := fun_mk (st := sKnown) l7 c7 k7
  have F8 := fun_mk (st := sCell) l8 c8 k8
  have b8 := F8.binds (ps := ["_law_script", "_law_k"]) fun _ _ _ _ _ _ us hl => match us, hl with | [_, _], _ => rfl
  have F9 := fun_mk (st := sWell) l9 c9 k9
  have b9 := F9.binds (ps := ["_law_cell"]) fun _ _ _ _ _ _ us hl => match us, hl with | [_], _ => rfl
  have F10 := fun_mk (st := sDraw) l10 c10 k10
  have b10 := F10.binds (ps := ["_law_well_here", "_law_many"]) fun _ _ _ _ _ _ us hl => match us, hl with | [_, _], _ => rfl
  have F11 := fun_mk (st := sOne) l11 c11 k11
  have b11 := F11.binds (ps := ["_law_well_here", "_law_some"]) fun _ _ _ _ _ _ us hl => match us, hl with | [_, _], _ => rfl
  have F12 := fun_mk (st := sBehind) l12 c12 k12
  have b12 := F12.binds (ps := ["_law_inputs", "_law_weaving_here", "_law_deep"]) fun _ _ _ _ _ _ us hl => match us, hl with | [_, _, _], _ => rfl
  have F13 := fun_mk (st := sLawWeav) l13 c13 k13
  have b13 := F13.binds (ps := ["_law_well_here", "_law_deep", "_law_stops"]) fun _ _ _ _ _ _ us hl => match us, hl with | [_, _, _], _ => rfl
  have F14 := fun_mk (st := sRight) l14 c14 k14
  have b14 := F14.binds (ps := ["_law_well_here"]) fun _ _ _ _ _ _ us hl => match us, hl with | [_], _ => rfl
  have F15 := fun_mk (st := sLaw) l15 c15 k15
  have T : Txt K mg := ⟨PySem.W.mg_none_of X G z0, PySem.W.mg_none_of X G z1, PySem.W.mg_none_of X G z2, PySem.W.mg_none_of X G z3, PySem.W.mg_none_of X G z4, PySem.W.mg_none_of X G z5, PySem.W.mg_none_of X G z6, PySem.W.mg_none_of X G z7, PySem.W.mg_none_of X G z8, PySem.W.mg_none_of X G z9⟩
  have U : Txt2 K mg := ⟨⟨_, PySem.W.mg_of X G i0⟩, ⟨_, PySem.W.mg_of X G i1⟩, ⟨_, PySem.W.mg_of X G t0, fun H => .inr ⟨_, _, _, u0, rfl, rfl, (by show 2 ≤ sizeLine; decide), .cons ⟨_, rfl⟩ (.cons ⟨_, rfl⟩ .nil)⟩⟩⟩
  have B7 := kn_binds F7
  refine ⟨PySem.W.fnOf "law" "law" (defArgs sLaw) (defBody sLaw) (defScope sLaw) .none kV15 dc15 pm15 an15 cd15 ct15, fun s v => .of_eq rfl, fun base _ _ => ?_⟩
  have m := fun {n : Str} {v : Value} (e : PySem.W.nsIn K mainGlobals n = some (some v)) => PySem.W.mg_of X G e
  have e1 : Def l.prog w K mg base "is_whole" ["thing"] 1 spWhole f1 _ := ⟨ok_whole F1 T, b1, k1, m a1⟩
  have e2 : Def l.prog w K mg base "is_whole_within" ["thing", "least", "most"] 2 spWithin f2 _ := ⟨ok_within F2 e1.G e1.b e1.k e1.m, b2, k2, m a2⟩
  have e3 : Def l.prog w K mg base "is_hand" ["thing"] 3 spHand f3 _ := ⟨ok_hand F3 e2, b3, k3, m a3⟩
  have e4 : Def l.prog w K mg base "is_inputs" ["thing"] 2 spInputs f4 _ := ⟨ok_inputs F4 T e1, b4, k4, m a4⟩
  have e5 : Def l.prog w K mg base "is_weaving" ["thing", "rounds"] 4 (spWeaving K) f5 _ := ⟨ok_weaving F5 T U e3, b5, k5, m a5⟩
  have e6 : Def l.prog w K mg base "put_in" ["cells", "at"] 1 (spPut K) f6 _ := ⟨ok_put F6 T, b6, k6, m a6⟩
  have e7 : KDef l.prog w K mg base f7 _ := ⟨ok_known F7 T U e2 e4 e5 e6, B7, k7, m a7⟩
  have e8 : Def l.prog w K mg base "_law_cell_at" ["_law_script", "_law_k"] 1 (spCell K) f8 _ := ⟨ok_cell F8 T, b8, k8, m a8⟩
  have e9 : Def l.prog w K mg base "_law_well" ["_law_cell"] 1 spWell f9 _ := ⟨ok_well F9 T, b9, k9, m a9⟩
  have g10 := ok_draw (P := l.prog) (w := w) (mg := mg) (base := base) F10
  have e10 : Def l.prog w K mg base "_law_draw" ["_law_well_here", "_law_many"] 1 spDraw2 f10 _ := ⟨weak g10 draw_weak, b10, k10, m a10⟩
  have e11 : Def l.prog w K mg base "_law_one" ["_law_well_here", "_law_some"] 2 spOne2 f11 _ := ⟨weak (ok_one F11 T g10 b10 k10 (m a10)) one_weak, b11, k11, m a11⟩
  have e12 : Def l.prog w K mg base "_law_behind" ["_law_inputs", "_law_weaving_here", "_law_deep"] 1 (spBehind K) f12 _ := ⟨ok_behind F12 T, b12, k12, m a12⟩
  have e13 : Def l.prog w K mg base "_law_weaving" ["_law_well_here", "_law_deep", "_law_stops"] 3 spLW f13 _ := ⟨ok_lw F13 T e10 e11, b13, k13, m a13⟩
  have e14 : Def l.prog w K mg base "_law_right" ["_law_well_here"] 6 spRight f14 _ := ⟨ok_right F14 T e10 e11 e13 e12 e7, b14, k14, m a14⟩
  exact ok_law F15 e8 e9 e14
theorem walk {l : PySem.W.OpenLaw} {q : Program} {loose : List Str} {XP : (Str → Option Value) → Heap → Prop} {YP : World → Heap → Prop} {d : DefRec} {K : Params → PySem.W.Frag} (hn : l.most = some 63) (hdf : d.params.defaults = [])
    (hY : ∀ (w : World) (h : Heap), YP w h → (K w.params).In h)
    (F : ∀ (w : World) (mg : Str → Option Value) (fa : Addr) (h : Heap), (K w.params).In h → h.Ns mainGlobals mg → mg d.name = some (.ref fa) →
      ∃ fd : FuncData, (∀ (s : Shared) (u : Value), BindsTo s fd ⟨[u], []⟩ [("_law_script", u)]) ∧ ∀ base : Heap, (K w.params).In base → base.Ns mainGlobals mg → FnOk l.prog w (K w.params) mg base CX0 7 fa fd ["_law_script"] (spLaw (K w.params))) :
    PySem.W.WalkO q loose XP YP l.row.toRowW d [] (fun f vs => PySem.call f vs) :=
  L2.walk_of (n := 63) (k := 7) (x := "_law_script") (CX := fun _ => CX0) (sp := fun w => spLaw (K w.params)) hn (by decide) hdf ⟨rfl, by decide, by decide⟩ hY F (fun _ _ a ns hl _ hS => ⟨a, ns, rfl, hS, hl, fun _ => rfl⟩) fun _ _ _ _ _ z => z
end TA
open PySem PySem.W PyProof.Rows
set_option maxRecDepth 100000 in
set_option maxHeartbeats 0 in
theorem PySem.Challenge.cw_twoalone_k11_what_is_known_holds : PySem.Challenge.rw_twoalone_k11_what_is_known.Holds := by
  w_on; o_law; k_head; (case hw => w_witness2)
  k_fill
  refine TA.walk (l := PySem.Challenge.rw_twoalone_k11_what_is_known) rfl rfl (fun w h Y => PySem.W.kIn_of Y) ?F
  case F =>
    intro w mg fa h KX G hmg
    refine' TA.all_mk KX G hmg ?a1 ?l1 ?c1 ?k1 ?a2 ?l2 ?c2 ?k2 ?a3 ?l3 ?c3 ?k3 ?a4 ?l4 ?c4 ?k4 ?a5 ?l5 ?c5 ?k5 ?a6 ?l6 ?c6 ?k6 ?a7 ?l7 ?c7 ?k7 ?a8 ?l8 ?c8 ?k8 ?a9 ?l9 ?c9 ?k9 ?a10 ?l10 ?c10 ?k10 ?a11 ?l11 ?c11 ?k11 ?a12 ?l12 ?c12 ?k12 ?a13 ?l13 ?c13 ?k13 ?a14 ?l14 ?c14 ?k14 ?a15 ?l15 ?c15 ?k15 ?z0 ?z1 ?z2 ?z3 ?z4 ?z5 ?z6 ?z7 ?z8 ?z9 ?i0 ?i1 ?t0 ?u0
    (case a1 => k_is); (case l1 => k_is); (case c1 => k_is); (case k1 => k_is); (case a2 => k_is); (case l2 => k_is); (case c2 => k_is); (case k2 => k_is); (case a3 => k_is); (case l3 => k_is); (case c3 => k_is); (case k3 => k_is); (case a4 => k_is); (case l4 => k_is); (case c4 => k_is); (case k4 => k_is); (case a5 => k_is); (case l5 => k_is); (case c5 => k_is); (case k5 => k_is); (case a6 => k_is); (case l6 => k_is); (case c6 => k_is); (case k6 => k_is); (case a7 => k_is); (case l7 => k_is); (case c7 => k_is); (case k7 => k_is); (case a8 => k_is); (case l8 => k_is); (case c8 => k_is); (case k8 => k_is); (case a9 => k_is); (case l9 => k_is); (case c9 => k_is); (case k9 => k_is); (case a10 => k_is); (case l10 => k_is); (case c10 => k_is); (case k10 => k_is); (case a11 => k_is); (case l11 => k_is); (case c11 => k_is); (case k11 => k_is); (case a12 => k_is); (case l12 => k_is); (case c12 => k_is); (case k12 => k_is); (case a13 => k_is); (case l13 => k_is); (case c13 => k_is); (case k13 => k_is); (case a14 => k_is); (case l14 => k_is); (case c14 => k_is); (case k14 => k_is); (case a15 => k_is); (case l15 => k_is); (case c15 => k_is); (case k15 => k_is); (case z0 => k_is); (case z1 => k_is); (case z2 => k_is); (case z3 => k_is); (case z4 => k_is); (case z5 => k_is); (case z6 => k_is); (case z7 => k_is); (case z8 => k_is); (case z9 => k_is); (case i0 => k_is); (case i1 => k_is); (case t0 => k_is); (case u0 => k_is)
