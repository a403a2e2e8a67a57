import PyProof.Rows.All
import Wide.All
import OpenK.AllK
import Wide.FinOn
import HandS.ForMost
import HandS.IsInst
import HandS.SetFor
import HandS.Wide
import PySem.Challenge.RW_twoalone_k13_all_weavings
set_option Elab.async false
set_option maxRecDepth 100000
set_option maxHeartbeats 4000000
namespace TA
open PySem L2 PyProof.Rows
set_option linter.unusedVariables false
def top (i : Nat) : Stmt := PySem.Challenge.pw_twoalone_k13_all_weavings.main.body.getD i (.Pass ⟨0, 0, 0, 0⟩)
abbrev sWhole : Stmt := top 2
abbrev sWithin : Stmt := top 3
abbrev sWeav : Stmt := top 10
abbrev sCell : Stmt := top 12
abbrev sWell : Stmt := top 13
abbrev sDraw : Stmt := top 14
abbrev sOne : Stmt := top 15
abbrev sRows : Stmt := top 16
abbrev sLaw : Stmt := top 17

structure Txt (K : PySem.W.Frag) (mg : Str → Option Value) : Prop where
  isi : mg "isinstance" = none
  int : mg "int" = none
  bool : mg "bool" = none
  len : mg "len" = none
  range : mg "range" = none
  list : mg "list" = none
theorem same_new {H : Hp} {p : Addr} (h : H p = none) (o : HO) : Same H (upd H p o) := fun b u q => by rw [upd_ne (ne_of_none q h)]; exact q

/-! the small promises -/
def spWhole : Sp := fun vs H Q _ => ∃ n : Int, vs = [.int n] ∧ Q (.bl true) H
def spWithin : Sp := fun vs H Q _ => ∃ a b c : Int, vs = [.int a, .int b, .int c] ∧ Q (.bl (decide (b ≤ a ∧ a ≤ c))) H
def spCell (K : PySem.W.Frag) : Sp := fun vs H Q _ => ∃ (a : Addr) (ns : List Int) (k : Int), vs = [.ref a, .int k] ∧ SqL K H a (ns.map V.int) ∧ ns.length ≤ 1000 ∧ 0 ≤ k ∧ ∀ c : Int, Q (.int c) H
def spWell : Sp := fun vs H Q _ => ∃ c : Int, vs = [.int c] ∧ ∀ (p : Addr) (x y : Int), H p = none → 0 ≤ x → 0 ≤ y → y < 2147483629 → Q (.ref p) (upd H p (.lst [.int x, .int y, .int 0]))
def spDraw : Sp := fun vs H Q _ => ∃ (a : Addr) (x y z m : Int), vs = [.ref a, .int m] ∧ H a = some (.lst [.int x, .int y, .int z]) ∧ 0 ≤ x ∧ 0 ≤ y ∧ y < 2147483629 ∧ 0 ≤ z ∧ z < 1000000 ∧ 0 < m ∧ m < 2 ^ 100 ∧
  ∀ (r x' z' : Int), 0 ≤ r → r < m → 0 ≤ x' → z ≤ z' → z' ≤ z + 1 → Q (.int r) (upd H a (.lst [.int x', .int y, .int z']))
section
variable {P : Program} {w : World} {K : PySem.W.Frag} {mg : Str → Option Value} {base : Heap}

theorem scWhole : FnScope ["thing"] ["thing"] (defScope sWhole) := ⟨rfl, rfl, rfl, by decide +kernel, rfl, by decide +kernel, by decide +kernel⟩
theorem ok_whole {f : Addr} {fd : FuncData} (F : Fun K "is_whole" "is_whole" sWhole f fd) (T : Txt K mg) : FnOk P w K mg base CX0 1 f fd ["thing"] spWhole := by
  refine F.ok scWhole (fun vs H Q E h => ?_) (fun cdv A outer s H vs Q E hr h => ?_)
  · obtain ⟨n, rfl, _⟩ := h
    rfl
  obtain ⟨n, rfl, q⟩ := h
  refine ⟨_, pss_one (ps_ret (pe_and (pe_callB call_isi (by rfl) T.isi boot_isinstance (pa_cons (pv 0) (pa_cons (pe_bltn (v := .ty "int") (by rfl) T.int boot_int rfl) pa_nil)))
    (pe_one (pe_not (pe_callB call_isi (by rfl) T.isi boot_isinstance (pa_cons (pv 0) (pa_cons (pe_bltn (v := .ty "bool") (by rfl) T.bool boot_bool rfl) pa_nil))))))), ?_⟩
  refine ⟨_, rfl, V.int n, V.ty "int", _, _, true, rfl, .ty "int", .base (.int n), kit_ty (by decide +kernel), true, rfl, iteT ?_⟩
  exact ⟨_, rfl, V.int n, V.ty "bool", _, _, false, rfl, .ty "bool", .base (.int n), kit_ty (by decide +kernel), false, rfl, q⟩

theorem scWithin : FnScope ["thing", "least", "most"] ["thing", "least", "most"] (defScope sWithin) := ⟨rfl, rfl, rfl, by decide +kernel, rfl, by decide +kernel, by decide +kernel⟩
theorem ok_within {f g : Addr} {fd gd : FuncData} (F : Fun K "is_whole_within" "is_whole_within" sWithin f fd) (G : FnOk P w K mg base CX0 1 g gd ["thing"] spWhole) (bG : Binds K gd ["thing"] []) (kG : PySem.W.keepIn K (.ref g) = true) (mG : mg "is_whole" = some (.ref g)) :
    FnOk P w K mg base CX0 2 f fd ["thing", "least", "most"] spWithin := by
  refine F.ok scWithin (fun vs H Q E h => ?_) (fun cdv A outer s H vs Q E hr h => ?_)
  · obtain ⟨a, b, c, rfl, _⟩ := h
    rfl
  obtain ⟨a, b, c, rfl, q⟩ := h
  refine ⟨_, pss_one (ps_ret (pe_and (pe_call G hr rfl mG kG bG .nil pass0 (pa_cons (pv 0) pa_nil)) (pe_one (pe_chain op_le op_le (pv 1) (pv 0) (pv 2))))), ?_⟩
  refine ⟨_, rfl, a, rfl, true, rfl, iteT ?_⟩
  refine ⟨_, rfl, _, rfl, _, _, rfl, rfl, _, rfl, ?_⟩
  by_cases h1 : b ≤ a
  · rw [decide_eq_true h1]
    refine iteT ?_
    refine ⟨_, rfl, _, _, rfl, rfl, ?_⟩
    have e : decide (b ≤ a ∧ a ≤ c) = decide (a ≤ c) := by simp [h1]
    rw [e] at q
    exact q
  · rw [decide_eq_false h1]
    refine iteF ?_
    have e : decide (b ≤ a ∧ a ≤ c) = false := by simp [h1]
    rw [e] at q
    exact q

theorem scCell : FnScope ["_law_script", "_law_k"] ["_law_script", "_law_k"] (defScope sCell) := ⟨rfl, rfl, rfl, by decide +kernel, rfl, by decide +kernel, by decide +kernel⟩
theorem ok_cell {f : Addr} {fd : FuncData} (F : Fun K "_law_cell_at" "_law_cell_at" sCell f fd) (T : Txt K mg) : FnOk P w K mg base CX0 1 f fd ["_law_script", "_law_k"] (spCell K) := by
  refine F.ok scCell (fun vs H Q E h => ?_) (fun cdv A outer s H vs Q E hr h => ?_)
  · obtain ⟨a, ns, k, rfl, _⟩ := h
    rfl
  obtain ⟨a, ns, k, rfl, hS, hn, hk, q⟩ := h
  refine ⟨_, pss_cons (ps_if (pt_cmpR op_lt (pv 1) (pe_callB call_len_seq (by rfl) T.len PySem.boot_len (pa_cons (pv 0) pa_nil)) (nomark _)) (pss_one (ps_ret (pe_ix ix_list (pv 0) (pv 1) (fun _ _ => rfl)))) pss_nil)
    (pss_one (ps_ret pe_int)), ?_⟩
  refine ⟨_, rfl, _, rfl, a, _, rfl, .inl hS, _, _, rfl, rfl, _, rfl, ?_⟩
  refine ite2 (fun c => ?_) (fun c => ?_)
  · have c' : k < (((ns.map V.int).length : Nat) : Int) := of_decide_eq_true c
    rw [List.length_map] at c'
    have hk' : k.toNat < ns.length := by omega
    have ek : k = ((k.toNat : Nat) : Int) := by omega
    have g : atI (ns.map V.int) ((k.toNat : Nat) : Int) = some (.int ns[k.toNat]) := atI_nat (by rw [List.getElem?_map, List.getElem?_eq_getElem hk'] <;> rfl)
    rw [← ek] at g
    exact ⟨_, rfl, _, rfl, a, _, _, _, rfl, rfl, hS, g, q _⟩
  · exact q 0

theorem scWell : FnScope ["_law_cell"] ["_law_cell"] (defScope sWell) := ⟨rfl, rfl, rfl, by decide +kernel, rfl, by decide +kernel, by decide +kernel⟩
theorem ok_well {f : Addr} {fd : FuncData} (F : Fun K "_law_well" "_law_well" sWell f fd) (T : Txt K mg) : FnOk P w K mg base CX0 1 f fd ["_law_cell"] spWell := by
  refine F.ok scWell (fun vs H Q E h => ?_) (fun cdv A outer s H vs Q E hr h => ?_)
  · obtain ⟨c, rfl, _⟩ := h
    rfl
  obtain ⟨c, rfl, q⟩ := h
  refine ⟨_, pss_one (ps_ret (pe_lst (pa_cons (pe_op op_mul (pv 0) (pe_callTy call_int1 (by rfl) T.int boot_int (pa_cons (pe_cmpR op_ge (pv 0) (pe_op op_pow pe_int pe_int) (nomark _)) pa_nil)))
    (pa_cons (pe_op op_mod (pv 0) pe_int) (pa_cons pe_int pa_nil))))), ?_⟩
  refine ⟨_, rfl, _, rfl, _, _, rfl, rfl, ⟨by decide, by decide, by decide⟩, _, _, rfl, rfl, .inr ⟨_, rfl, ?_⟩⟩
  have b : ∀ k : Bool, CMul c (if k = true then 1 else 0) := fun k => .inr (by cases k <;> decide)
  refine ⟨_, _, rfl, rfl, b _, _, rfl, _, _, rfl, rfl, (by show (0 : Int) < 2147483629; decide), (by show 3 ≤ sizeLine; decide), fun p hp => ?_⟩
  have m0 : 0 ≤ c % 2147483629 := Int.emod_nonneg _ (by decide)
  have m1 : c % 2147483629 < 2147483629 := Int.emod_lt_of_pos _ (by decide)
  refine q p _ _ hp ?_ m0 m1
  by_cases hc : c ≥ 10 ^ (18 : Int).toNat
  · rw [decide_eq_true hc]
    have : (0 : Int) ≤ 10 ^ (18 : Int).toNat := by decide
    show 0 ≤ c * 1
    omega
  · rw [decide_eq_false hc]
    show 0 ≤ c * 0
    omega

theorem scDraw : FnScope ["_law_well_here", "_law_many", "_law_found", "_law_number"] ["_law_well_here", "_law_many"] (defScope sDraw) := ⟨rfl, rfl, rfl, by decide +kernel, rfl, by decide +kernel, by decide +kernel⟩
theorem ok_draw {f : Addr} {fd : FuncData} (F : Fun K "_law_draw" "_law_draw" sDraw f fd) : FnOk P w K mg base CX0 1 f fd ["_law_well_here", "_law_many"] spDraw := by
  refine F.ok scDraw (fun vs H Q E h => ?_) (fun cdv A outer s H vs Q E hr h => ?_)
  · obtain ⟨a, x, y, z, m, rfl, _⟩ := h
    rfl
  obtain ⟨a, x, y, z, m, rfl, hL, hx, hy, hy2, hz, hz2, hm, hm2, q⟩ := h
  have nd := scDraw.nd
  refine ⟨_, pss_cons (ps_if (pt_cmpR op_gt (pe_ix ix_list (pv 0) pe_int (fun _ _ => rfl)) pe_int (nomark _))
      (pss_cons (ps_set (i := 2) nd rfl (Or.inl rfl) (pe_op op_mod (pe_ix ix_list (pv 0) pe_int (fun _ _ => rfl)) (pv 1)))
        (pss_cons (ps_asg (pe_op op_fdivW (pe_ix ix_list (pv 0) pe_int (fun _ _ => rfl)) (pv 1)) (pg_sub (pv 0) pe_int set_list))
          (pss_one (ps_ret (pv 2))))) pss_nil)
    (pss_cons (ps_asg (pe_op op_add (pe_ix ix_list (pv 0) pe_int (fun _ _ => rfl)) pe_int) (pg_sub (pv 0) pe_int set_list))
    (pss_cons (ps_set (i := 3) nd rfl (Or.inl rfl) (pe_op op_mod (pe_op op_mul (pe_op op_add (pe_op op_add (pe_ix ix_list (pv 0) pe_int (fun _ _ => rfl)) (pe_op op_mul pe_int (pe_ix ix_list (pv 0) pe_int (fun _ _ => rfl)))) pe_int) pe_int) pe_int))
    (pss_cons (ps_set (i := 3) nd rfl (Or.inl rfl) (pe_op op_mod (pe_op op_mul (pv 3) (pe_op op_add (pe_op op_add (pe_op op_fdiv (pv 3) pe_int) pe_int) (pe_ix ix_list (pv 0) pe_int (fun _ _ => rfl)))) pe_int))
    (pss_one (ps_ret (pe_op op_mod (pe_op op_fdiv (pe_op op_mod (pe_op op_mul (pv 3) (pe_op op_add (pe_op op_fdiv (pv 3) pe_int) pe_int)) pe_int) pe_int) (pv 1))))))), ?_⟩
  refine ⟨_, rfl, a, _, _, _, rfl, rfl, SqL.of hL, rfl, _, _, rfl, rfl, _, rfl, ?_⟩
  refine ite2 (fun c => ?_) (fun c => ?_)
  · have c' : x > 0 := of_decide_eq_true c
    refine ⟨_, rfl, a, _, _, _, rfl, rfl, SqL.of hL, rfl, _, rfl, _, _, rfl, rfl, hm, ?_⟩
    refine ⟨_, rfl, a, _, _, _, rfl, rfl, SqL.of hL, rfl, _, rfl, _, _, rfl, rfl, wide_div (b := 100) hm (by omega) (by decide) (by decide), ?_⟩
    refine ⟨_, rfl, a, _, _, 0, rfl, rfl, hL, rfl, _, rfl, ?_⟩
    exact q _ _ _ (Int.emod_nonneg _ (by omega)) (Int.emod_lt_of_pos _ hm) (Int.ediv_nonneg hx (by omega)) (Int.le_refl _) (by omega)
  · have hL2 : (upd H a (.lst [.int x, .int y, .int (z + 1)])) a = some (.lst [.int x, .int y, .int (z + 1)]) := upd_same
    refine ⟨_, rfl, a, _, _, _, rfl, rfl, SqL.of hL, rfl, _, _, rfl, rfl, ?_⟩
    refine ⟨_, rfl, a, _, _, 2, rfl, rfl, hL, rfl, ?_⟩
    refine ⟨_, rfl, a, _, _, _, rfl, rfl, SqL.of hL2, rfl, _, rfl, a, _, _, _, rfl, rfl, SqL.of hL2, rfl, _, _, rfl, rfl, .inl ⟨by decide, by decide⟩, _, _, rfl, rfl, _, _, rfl, rfl, _, _, rfl, rfl, .inr ⟨by decide, by decide⟩, _, _, rfl, rfl, (by show (0 : Int) < 2147483629; decide), ?_⟩
    have n0 := Int.emod_nonneg ((y + 86969 * (z + 1) + 1) * 48271) (show (2147483629 : Int) ≠ 0 by decide)
    have n1 := Int.emod_lt_of_pos ((y + 86969 * (z + 1) + 1) * 48271) (show (0 : Int) < 2147483629 by decide)
    generalize ((y + 86969 * (z + 1) + 1) * 48271) % 2147483629 = n at n0 n1 ⊢
    refine ⟨_, rfl, _, rfl, _, _, rfl, rfl, ⟨by decide, by decide⟩, _, _, rfl, rfl, _, rfl, a, _, _, _, rfl, rfl, SqL.of hL2, rfl, _, _, rfl, rfl, _, _, rfl, rfl, .inl ⟨by omega, by omega⟩, _, _, rfl, rfl, (by show (0 : Int) < 2147483587; decide), ?_⟩
    have k0 := Int.emod_nonneg (n * (n / 1013 + 69623 + (z + 1))) (show (2147483587 : Int) ≠ 0 by decide)
    have k1 := Int.emod_lt_of_pos (n * (n / 1013 + 69623 + (z + 1))) (show (0 : Int) < 2147483587 by decide)
    generalize (n * (n / 1013 + 69623 + (z + 1))) % 2147483587 = k at k0 k1 ⊢
    refine ⟨_, rfl, _, rfl, _, _, rfl, rfl, ⟨by decide, by decide⟩, _, _, rfl, rfl, _, _, rfl, rfl, .inl ⟨by omega, by omega⟩, _, _, rfl, rfl, (by show (0 : Int) < 2147483563; decide), _, _, rfl, rfl, ⟨by decide, by decide⟩, _, rfl, _, _, rfl, rfl, hm, ?_⟩
    exact q _ _ _ (Int.emod_nonneg _ (by omega)) (Int.emod_lt_of_pos _ hm) hx (by omega) (by omega)

/-- _law_one: SOME item of the list -/
def spOne (K : PySem.W.Frag) : Sp := fun vs H Q _ => ∃ (a l : Addr) (x y z : Int) (xs : List V), vs = [.ref a, .ref l] ∧ H a = some (.lst [.int x, .int y, .int z]) ∧ 0 ≤ x ∧ 0 ≤ y ∧ y < 2147483629 ∧ 0 ≤ z ∧ z < 1000000 ∧ H l = some (.lst xs) ∧ a ≠ l ∧ 0 < xs.length ∧ xs.length < 1000 ∧
  ∀ (i : Nat) (v : V) (x' z' : Int), xs[i]? = some v → 0 ≤ x' → z ≤ z' → z' ≤ z + 1 → Q v (upd H a (.lst [.int x', .int y, .int z']))
theorem scOne : FnScope ["_law_well_here", "_law_some"] ["_law_well_here", "_law_some"] (defScope sOne) := ⟨rfl, rfl, rfl, by decide +kernel, rfl, by decide +kernel, by decide +kernel⟩
theorem ok_one {f g : Addr} {fd gd : FuncData} (F : Fun K "_law_one" "_law_one" sOne f fd) (T : Txt K mg) (G : FnOk P w K mg base CX0 1 g gd ["_law_well_here", "_law_many"] spDraw) (bG : Binds K gd ["_law_well_here", "_law_many"] []) (kG : PySem.W.keepIn K (.ref g) = true) (mG : mg "_law_draw" = some (.ref g)) :
    FnOk P w K mg base CX0 2 f fd ["_law_well_here", "_law_some"] (spOne K) := by
  refine F.ok scOne (fun vs H Q E h => ?_) (fun cdv A outer s H vs Q E hr h => ?_)
  · obtain ⟨a, l, x, y, z, xs, rfl, _⟩ := h
    rfl
  obtain ⟨a, l, x, y, z, xs, rfl, hL, hx, hy, hy2, hz, hz2, hl, hal, hn0, hn1, q⟩ := h
  refine ⟨_, pss_one (ps_ret (pe_ix ix_list (pv 1) (pe_call G hr rfl mG kG bG .nil pass0 (pa_cons (pv 0) (pa_cons (pe_callB call_len_seq (by rfl) T.len PySem.boot_len (pa_cons (pv 1) pa_nil)) pa_nil))) (fun _ _ => rfl))), ?_⟩
  refine ⟨_, rfl, _, rfl, _, rfl, l, _, rfl, .inl (SqL.of hl), a, x, y, z, _, rfl, hL, hx, hy, hy2, hz, hz2, by omega, by omega, fun r x' z' r0 r1 x0 z0 z1 => ?_⟩
  have hr' : r.toNat < xs.length := by omega
  have er : r = ((r.toNat : Nat) : Int) := by omega
  have g : atI xs ((r.toNat : Nat) : Int) = some xs[r.toNat] := atI_nat (List.getElem?_eq_getElem hr')
  rw [← er] at g
  exact ⟨l, _, _, _, rfl, rfl, SqL.of (by rw [upd_ne hal.symm]; exact hl), g, q r.toNat _ _ _ (List.getElem?_eq_getElem hr') x0 z0 z1⟩
end
end TA

set_option Elab.async false
set_option maxRecDepth 100000
set_option maxHeartbeats 4000000
namespace TA
open PySem L2 PyProof.Rows
set_option linter.unusedVariables false
/-! rows: lists of ints at addresses rs, all of them new behind H0 -/
inductive RowsOf (H0 H : Hp) : List Addr → List (List Int) → Prop
  | nil : RowsOf H0 H [] []
  | cons {r : Addr} {rs : List Addr} {xs : List Int} {xss : List (List Int)} : H0 r = none → H r = some (.lst (xs.map V.int)) → RowsOf H0 H rs xss → RowsOf H0 H (r :: rs) (xs :: xss)
theorem RowsOf.mono {H0 H H' : Hp} (s : Same H H') : ∀ {rs xss}, RowsOf H0 H rs xss → RowsOf H0 H' rs xss
  | _, _, .nil => .nil
  | _, _, .cons a b c => .cons a (s _ _ b) (c.mono s)
theorem RowsOf.back {H00 H0 H : Hp} (s : Same H00 H0) : ∀ {rs xss}, RowsOf H0 H rs xss → RowsOf H00 H rs xss
  | _, _, .nil => .nil
  | _, _, .cons a b c => .cons (s.free a) b (c.back s)
theorem RowsOf.updD {H0 H : Hp} {D : Addr} {o u : HO} (hD : H0 D = some u) : ∀ {rs xss}, RowsOf H0 H rs xss → RowsOf H0 (upd H D o) rs xss
  | _, _, .nil => .nil
  | _, _, .cons a b c => .cons a (by rw [upd_ne (ne_of_none hD a).symm]; exact b) (c.updD hD)
theorem RowsOf.app {H0 H : Hp} {ss yss} (h2 : RowsOf H0 H ss yss) : ∀ {rs xss}, RowsOf H0 H rs xss → RowsOf H0 H (rs ++ ss) (xss ++ yss)
  | _, _, .nil => h2
  | _, _, .cons a b c => .cons a b (h2.app c)
theorem RowsOf.snoc {H0 H : Hp} {rs xss} {r : Addr} {xs : List Int} (h : RowsOf H0 H rs xss) (a : H0 r = none) (b : H r = some (.lst (xs.map V.int))) : RowsOf H0 H (rs ++ [r]) (xss ++ [xs]) := RowsOf.app (.cons a b .nil) h
theorem RowsOf.len {H0 H : Hp} : ∀ {rs xss}, RowsOf H0 H rs xss → rs.length = xss.length
  | _, _, .nil => rfl
  | _, _, .cons _ _ c => congrArg (· + 1) c.len
theorem RowsOf.get {H0 H : Hp} : ∀ {rs xss} {i : Nat} {v : V}, RowsOf H0 H rs xss → (rs.map V.ref)[i]? = some v → ∃ r xs, v = .ref r ∧ xss[i]? = some xs ∧ H0 r = none ∧ H r = some (.lst (xs.map V.int))
  | _, _, i, _, .nil, e => by simp at e
  | _, _, 0, _, .cons (r := r) (xs := xs) a b c, e => ⟨r, xs, by simpa using e.symm, by simp, a, b⟩
  | _, _, i + 1, v, .cons a b c, e => by
    obtain ⟨r, xs, h1, h2, h3, h4⟩ := RowsOf.get (i := i) (v := v) c (by simpa using e)
    exact ⟨r, xs, h1, by simpa using h2, h3, h4⟩
def toD (xss : List (List Int)) : PyData := .list (xss.map fun xs => .list (xs.map PyData.int))
theorem ints_dp {K : PySem.W.Frag} {H : Hp} : ∀ xs : List Int, DpAll K H (xs.map V.int) (xs.map PyData.int)
  | [] => .nil
  | x :: r => .cons (.int x) (ints_dp r)
theorem RowsOf.dp {K : PySem.W.Frag} {H0 H : Hp} : ∀ {rs xss}, RowsOf H0 H rs xss → DpAll K H (rs.map V.ref) (xss.map fun xs => .list (xs.map PyData.int))
  | _, _, .nil => .nil
  | _, _, .cons _ b c => .cons (.lst (SqL.of b) (ints_dp _)) c.dp

/-! the two ways to reckon them -/
def rowsF : Nat → Nat → Nat → List (List Int)
  | 0, m, n => [List.replicate m 0 ++ List.replicate n 1]
  | f + 1, m, n => if m = 0 ∨ n = 0 then [List.replicate m 0 ++ List.replicate n 1] else (rowsF f (m - 1) n).map (fun r => 0 :: r) ++ (rowsF f m (n - 1)).map (fun r => 1 :: r)
theorem rowsF_len : ∀ f m n, (rowsF f m n).length ≤ 2 ^ f
  | 0, m, n => Nat.le_refl _
  | f + 1, m, n => by
    unfold rowsF
    have h1 := rowsF_len f (m - 1) n
    have h2 := rowsF_len f m (n - 1)
    have h3 : 1 ≤ 2 ^ f := Nat.one_le_two_pow
    split
    · rw [Nat.pow_succ]; show 1 ≤ _; omega
    · rw [List.length_append, List.length_map, List.length_map, Nat.pow_succ]; omega
def kids (s : Nat) (b : List Int) : List (List Int) := ([0, 1].filter fun h => decide (b.count h < s)).map fun h => b ++ [h]
def grow (s : Nat) (ws : List (List Int)) : List (List Int) := ws.flatMap (kids s)
def lvl (s : Nat) : Nat → List (List Int)
  | 0 => [[]]
  | k + 1 => grow s (lvl s k)
def lvlOk (s k : Nat) : Bool := match lvl s k with
  | [] => false
  | b :: r => b.length == k && decide (r.length < 1000)
theorem lvl_ok : ∀ d < 4, ∀ k < 4 * d + 1, lvlOk (2 * d) k = true := by decide +kernel
theorem lvl_rows : ∀ d < 4, lvl (2 * d) (4 * d) = rowsF 12 (2 * d) (2 * d) := by decide +kernel
theorem lvl_shaped : ∀ d < 4, SeqAt.shaped (toD (lvl (2 * d) (4 * d))) = true := by decide +kernel
theorem lvl_many : ∀ d < 4, ([1, 6, 70, 924] : List Int)[d]? = some ((lvl (2 * d) (4 * d)).length : Int) := by decide +kernel
theorem lvl_head {d k : Nat} (hd : d < 4) (hk : k < 4 * d + 1) : ∃ b r, lvl (2 * d) k = b :: r ∧ b.length = k ∧ r.length < 1000 := by
  have h := lvl_ok d hd k hk
  unfold lvlOk at h
  split at h
  · cases h
  · rename_i b r e
    rw [Bool.and_eq_true] at h
    exact ⟨b, r, e, by simpa using h.1, of_decide_eq_true h.2⟩
theorem kids_len (s : Nat) (b : List Int) : (kids s b).length ≤ 2 := by
  unfold kids
  rw [List.length_map]
  exact List.length_filter_le _ _
theorem grow_len (s : Nat) : ∀ ws, (grow s ws).length ≤ 2 * ws.length
  | [] => Nat.le_refl _
  | b :: r => by
    have h1 := kids_len s b
    have h2 := grow_len s r
    have e : grow s (b :: r) = kids s b ++ grow s r := rfl
    rw [e, List.length_append, List.length_cons]
    omega
theorem grow_take {s : Nat} {ws : List (List Int)} {i : Nat} {b : List Int} (h : ws[i]? = some b) : grow s (ws.take (i + 1)) = grow s (ws.take i) ++ kids s b := by
  rw [List.take_add_one, h]
  unfold grow
  rw [List.flatMap_append]
  simp
end TA

set_option Elab.async false
set_option maxRecDepth 100000
set_option maxHeartbeats 4000000
namespace TA
open PySem L2 PyProof.Rows
set_option linter.unusedVariables false
/-- _law_rows with n calls left -/
def spRows (n : Nat) : Sp := fun vs H Q _ => ∃ (m k : Nat), vs = [.int (m : Int), .int (k : Int)] ∧ m + k ≤ n ∧ n ≤ 12 ∧
  ∀ (p : Addr) (rs : List Addr) (H' : Hp), Same H H' → H p = none → H' p = some (.lst (rs.map V.ref)) → RowsOf H H' rs (rowsF n m k) → Q (.ref p) H'
theorem small13 {n : Nat} (h : n ≤ 100000) : n ≤ sizeLine := Nat.le_trans h (by decide)
theorem flat_one (k : Nat) (v : V) : (List.replicate k [v]).flatten = List.replicate k v := by
  induction k with
  | zero => rfl
  | succ k ih => rw [List.replicate_succ, List.flatten_cons, ih]; rfl
theorem rowsF_row : ∀ f m n, ∀ r ∈ rowsF f m n, r.length ≤ m + n
  | 0, m, n => fun r h => by
    have e : r = List.replicate m 0 ++ List.replicate n 1 := by simpa [rowsF] using h
    rw [e, List.length_append, List.length_replicate, List.length_replicate]
    exact Nat.le_refl _
  | f + 1, m, n => fun r h => by
    unfold rowsF at h
    split at h
    · have e : r = List.replicate m 0 ++ List.replicate n 1 := by simpa using h
      rw [e, List.length_append, List.length_replicate, List.length_replicate]
      exact Nat.le_refl _
    · rcases List.mem_append.mp h with h | h
      · obtain ⟨r', h', rfl⟩ := List.mem_map.mp h
        have := rowsF_row f (m - 1) n r' h'
        rw [List.length_cons]
        omega
      · obtain ⟨r', h', rfl⟩ := List.mem_map.mp h
        have := rowsF_row f m (n - 1) r' h'
        rw [List.length_cons]
        omega
/-- [[c] + row for row in p] -/
theorem lc_front {K : PySem.W.Frag} {H0 H1 : Hp} {p D : Addr} {rs : List Addr} {xss : List (List Int)} {c : Int} {v0 v1 : V} {Qd : Hp → Prop} (hD : H1 D = none) (hL : H1 p = some (.lst (rs.map V.ref))) (hR : RowsOf H0 H1 rs xss) (hz : xss.length ≤ 100000) (hrow : ∀ r ∈ xss, r.length ≤ 1000)
    (hd : ∀ (H : Hp) (acc : List Addr), Same H1 H → H D = some (.lst (acc.map V.ref)) → RowsOf (upd H1 D (.lst [])) H acc (xss.map fun r => c :: r) → Qd H) :
    ∃ W : Nat → Nat → Hp → Prop, (∃ m, W 0 m (upd H1 D (.lst []))) ∧ ∀ i m H, W i m H →
      ((Itl K p).stop i H ∧ Qd H) ∨ ((Itl K p).go i H ∧ ∃ Nx : Hp → Prop, (∀ H', Nx H' → ∃ m', m' < m ∧ W (i + 1) m' H') ∧ ∀ x H', (Itl K p).yld i H x H' → gName 2 x (wipe [some v0, some v1, none] [2]) H' fun σ2 H2 => wipe σ2 [2] = wipe [some v0, some v1, none] [2] ∧ tYes σ2 H2 fun b H3 =>
        if b = true then tOp rCat (tLst (tCons (tC (V.int c)) tNil)) (tVar 2) σ2 H3 fun y H4 => ∃ acc, H4 D = some (.lst acc) ∧ acc.length < sizeLine ∧ Nx (upd H4 D (.lst (acc ++ [y]))) else Nx H3) := by
  have hpD : p ≠ D := ne_of_none hL hD
  refine lc_list (K := K) (a := p) (xs := rs.map V.ref) (fun i H => Same H1 H ∧ ∃ acc : List Addr, H D = some (.lst (acc.map V.ref)) ∧ RowsOf (upd H1 D (.lst [])) H acc ((xss.take i).map fun r => c :: r)) ?_ ?_ ?_ ?_
  · exact ⟨same_new hD _, [], upd_same, .nil⟩
  · rintro i H _ ⟨s, _⟩
    exact SqL.of (s _ _ hL)
  · rintro i x H hx ⟨s, acc, hacc, hA⟩
    obtain ⟨r, ys, rfl, hy, _, hr⟩ := hR.get hx
    have hr' := s _ _ hr
    have hil : i < xss.length := (List.getElem?_eq_some_iff.mp hy).1
    have hys := hrow ys (List.mem_of_getElem? hy)
    have hal : acc.length = i := by
      have := hA.len
      rw [List.length_map, List.length_take] at this
      omega
    refine ⟨rfl, (by show 1 ≤ sizeLine; decide), fun q1 h1 => ?_⟩
    have s1 := same_new h1 (.lst [.int c])
    refine ⟨.ref r, rfl, q1, r, _, _, rfl, rfl, upd_same, s1 _ _ hr', (by rw [List.length_map]; exact small13 (by show 1 + _ ≤ _; omega)), fun q2 h2 => ?_⟩
    have s2 := s1.trans (same_new h2 (.lst ([V.int c] ++ ys.map V.int)))
    have n2 : D ≠ q2 := ne_of_none (s1 _ _ hacc) h2
    refine ⟨_, s2 _ _ hacc, (by rw [List.length_map, hal]; exact Nat.lt_of_lt_of_le hil (Nat.le_trans hz (by decide))), fun b o e => ?_, acc ++ [q2], ?_, ?_⟩
    · rw [upd_ne (ne_of_none e hD)]
      exact s2 _ _ (s _ _ e)
    · rw [upd_same, List.map_append]
      all_goals rfl
    · rw [List.take_add_one, hy, List.map_append]
      refine RowsOf.snoc ((hA.mono s2).updD upd_same) ?_ ?_
      · rw [upd_ne n2.symm]
        exact s.free (s1.free h2)
      · rw [upd_ne n2.symm, upd_same]
        all_goals rfl
  · rintro H ⟨s, acc, hacc, hA⟩
    refine hd H acc s hacc ?_
    rw [List.length_map, hR.len, List.take_length] at hA
    exact hA
section
variable {P : Program} {w : World} {K : PySem.W.Frag} {mg : Str → Option Value} {base : Heap}
theorem scRows : FnScope ["_law_one_here", "_law_two", "_law_row"] ["_law_one_here", "_law_two"] (defScope sRows) := ⟨rfl, rfl, rfl, by decide +kernel, rfl, by decide +kernel, by decide +kernel⟩
theorem rows_none {f : Addr} {fd : FuncData} {k : Nat} (sp : Sp) (no : ∀ vs H Q E, ¬ sp vs H Q E) : FnOk P w K mg base CX0 k f fd ["_law_one_here", "_law_two"] sp :=
  ⟨fun vs H Q E h => absurd h (no vs H Q E), fun A outer s H args us vs Q E _ _ _ _ h => absurd h (no vs H Q E)⟩
theorem ok_rows {n : Nat} {f : Addr} {fd : FuncData} (F : Fun K "_law_rows" "_law_rows" sRows f fd) (G : n = 0 ∨ ∃ j, n = j + 1 ∧ FnOk P w K mg base CX0 n f fd ["_law_one_here", "_law_two"] (spRows j)) (bG : Binds K fd ["_law_one_here", "_law_two"] []) (mG : mg "_law_rows" = some (.ref f)) :
    FnOk P w K mg base CX0 (n + 1) f fd ["_law_one_here", "_law_two"] (spRows n) := by
  refine F.ok scRows (fun vs H Q E h => ?_) (fun cdv A outer s H vs Q E hr h => ?_)
  · obtain ⟨m, k, rfl, _⟩ := h
    rfl
  obtain ⟨m, k, rfl, hmk, hn, q⟩ := h
  have nd := scRows.nd
  -- the call's rule: where no call is left its promise can't be asked
  have G' : FnOk P w K mg base CX0 n f fd ["_law_one_here", "_law_two"] (fun vs H Q E => ∃ j, n = j + 1 ∧ spRows j vs H Q E) := by
    rcases G with h0 | ⟨j, hj, g⟩
    · exact rows_none _ (fun vs H Q E ⟨j, hj, _⟩ => by omega)
    · subst hj
      have e : (fun vs H Q E => ∃ i, j + 1 = i + 1 ∧ spRows i vs H Q E) = spRows j := by
        funext vs H Q E
        refine propext ⟨fun ⟨i, hi, h⟩ => ?_, fun h => ⟨j, rfl, h⟩⟩
        have : i = j := by omega
        rw [this] at h
        exact h
      rw [e]
      exact g
  refine ⟨_, pss_cons (ps_if (PW.pt (pw_or (pt_cmpR op_eq (pv 0) pe_int (nomark _)) (pw_or1 (pt_cmpR op_eq (pv 1) pe_int (nomark _)))))
      (pss_one (ps_ret (pe_lst (pa_cons (pe_op op_cat (pe_op op_rep (pe_lst (pa_cons pe_int pa_nil)) (pv 0)) (pe_op op_rep (pe_lst (pa_cons pe_int pa_nil)) (pv 1))) pa_nil)))) pss_nil)
    (pss_one (ps_ret (pe_op op_cat
      (pe_lc (own := [("_law_row", 2)]) (g := gName 2) (tt := tYes) rfl nd (pi_list (pe_call G' hr rfl mG F.kp bG .nil pass0 (pa_cons (pe_op op_sub (pv 0) pe_int) (pa_cons (pv 1) pa_nil)))) (blkOk_by (N := ["_law_one_here", "_law_two", "_law_row"]) (sc := defScope sRows) (by decide +kernel)) (fun _ _ _ _ _ => pg_name (i := 2) nd rfl (Or.inl rfl)) (fun _ _ _ _ _ => pts_nil) (fun _ _ _ _ _ => pe_op op_cat (pe_lst (pa_cons pe_int pa_nil)) (pv 2)))
      (pe_lc (own := [("_law_row", 2)]) (g := gName 2) (tt := tYes) rfl nd (pi_list (pe_call G' hr rfl mG F.kp bG .nil pass0 (pa_cons (pv 0) (pa_cons (pe_op op_sub (pv 1) pe_int) pa_nil)))) (blkOk_by (N := ["_law_one_here", "_law_two", "_law_row"]) (sc := defScope sRows) (by decide +kernel)) (fun _ _ _ _ _ => pg_name (i := 2) nd rfl (Or.inl rfl)) (fun _ _ _ _ _ => pts_nil) (fun _ _ _ _ _ => pe_op op_cat (pe_lst (pa_cons pe_int pa_nil)) (pv 2)))))), ?_⟩
  have base : m = 0 ∨ k = 0 → rowsF n m k = [List.replicate m 0 ++ List.replicate k 1] := fun h => by
    cases n with
    | zero => rfl
    | succ n => unfold rowsF; rw [if_pos h]
  have hw0 : ∀ j : Nat, (V.int (j : Int) = V.int 0) ↔ j = 0 := fun j => ⟨fun e => by injection e with e; omega, fun e => by rw [e]; rfl⟩
  have leaf : (m = 0 ∨ k = 0) → tLst (tCons (tOp rCat (tOp rRep (tLst (tCons (tC (V.int 0)) tNil)) (tVar 0)) (tOp rRep (tLst (tCons (tC (V.int 1)) tNil)) (tVar 1))) tNil) (start ["_law_one_here", "_law_two", "_law_row"] [.int (m : Int), .int (k : Int)]) H Q := fun h => by
    refine ⟨(by show 1 ≤ sizeLine; decide), fun p1 h1 => ?_⟩
    refine ⟨_, rfl, p1, _, _, rfl, rfl, upd_same, by omega, by omega, by show 1 * _ ≤ sizeLine; exact small13 (by omega), fun p2 h2 => ?_⟩
    refine ⟨(by show 1 ≤ sizeLine; decide), fun p3 h3 => ?_⟩
    refine ⟨_, rfl, p3, _, _, rfl, rfl, upd_same, by omega, by omega, by show 1 * _ ≤ sizeLine; exact small13 (by omega), fun p4 h4 => ?_⟩
    have s1 := same_new h1 (.lst [.int 0])
    have s2 := s1.trans (same_new h2 (.lst (List.replicate (m : Int).toNat [.int 0]).flatten))
    have s3 := s2.trans (same_new h3 (.lst [.int 1]))
    have s4 := s3.trans (same_new h4 (.lst (List.replicate (k : Int).toNat [.int 1]).flatten))
    have e2 := same_new h4 (.lst (List.replicate (k : Int).toNat [.int 1]).flatten) _ _ (same_new h3 (.lst [.int 1]) _ _ (upd_same (H := upd H p1 (.lst [.int 0])) (a := p2) (o := .lst (List.replicate (m : Int).toNat [.int 0]).flatten)))
    refine ⟨p2, p4, _, _, rfl, rfl, e2, upd_same, by rw [flat_one, flat_one, List.length_replicate, List.length_replicate]; exact small13 (by omega), fun p5 h5 => ?_⟩
    refine ⟨(by show 1 ≤ sizeLine; decide), fun p6 h6 => ?_⟩
    have s5 := s4.trans (same_new h5 (.lst ((List.replicate (m : Int).toNat [V.int 0]).flatten ++ (List.replicate (k : Int).toNat [V.int 1]).flatten)))
    refine q p6 [p5] _ (s5.trans (same_new h6 _)) (s5.free h6) upd_same ?_
    rw [base h]
    refine .cons (s4.free h5) ?_ .nil
    rw [upd_ne (ne_of_none upd_same h6), upd_same, flat_one, flat_one, List.map_append, List.map_replicate, List.map_replicate]
    all_goals rfl
  refine ⟨_, rfl, rfl, _, rfl, ?_⟩
  refine ite2 (fun c => ?_) (fun c => ?_)
  · exact iteT (leaf (.inl ((hw0 m).mp (of_decide_eq_true c))))
  have m0 : m ≠ 0 := fun e => c (decide_eq_true ((hw0 m).mpr e))
  refine ⟨_, rfl, rfl, _, rfl, ?_⟩
  refine ite2 (fun c => ?_) (fun c => ?_)
  · exact leaf (.inr ((hw0 k).mp (of_decide_eq_true c)))
  have k0 : k ≠ 0 := fun e => c (decide_eq_true ((hw0 k).mpr e))
  obtain ⟨j, rfl⟩ : ∃ j, n = j + 1 := ⟨n - 1, by omega⟩
  have em : ((m : Nat) : Int) - 1 = ((m - 1 : Nat) : Int) := by omega
  have ek : ((k : Nat) : Int) - 1 = ((k - 1 : Nat) : Int) := by omega
  have hfold : rowsF (j + 1) m k = (rowsF j (m - 1) k).map (fun r => 0 :: r) ++ (rowsF j m (k - 1)).map (fun r => 1 :: r) := by
    show (if m = 0 ∨ k = 0 then _ else _) = _
    rw [if_neg (by omega)]
  refine ⟨_, rfl, _, _, rfl, rfl, _, rfl, j, rfl, m - 1, k, (by show [V.int (((m : Nat) : Int) - 1), V.int (k : Int)] = _; rw [em]), by omega, by omega, fun p rs H1 s1 hp hL hR => ?_⟩
  have small : ∀ a b c : Nat, c ≤ 12 → (rowsF c a b).length ≤ 4096 := fun a b c h => Nat.le_trans (rowsF_len c a b) (Nat.le_trans (Nat.pow_le_pow_right (by decide) h) (by decide))
  refine ⟨p, rfl, ⟨_, SqL.of hL⟩, fun D hD => ?_⟩
  refine lc_front hD hL hR (Nat.le_trans (small _ _ _ (by omega)) (by decide)) (fun r hr' => Nat.le_trans (rowsF_row _ _ _ r hr') (by omega)) fun H2 acc s2 hD2 hA => ?_
  refine ⟨_, rfl, _, rfl, _, _, rfl, rfl, j, rfl, m, k - 1, (by show [V.int (m : Int), V.int (((k : Nat) : Int) - 1)] = _; rw [ek]), by omega, by omega, fun p' rs' H3 s3 hp' hL' hR' => ?_⟩
  refine ⟨p', rfl, ⟨_, SqL.of hL'⟩, fun D' hD' => ?_⟩
  refine lc_front hD' hL' hR' (Nat.le_trans (small _ _ _ (by omega)) (by decide)) (fun r hr' => Nat.le_trans (rowsF_row _ _ _ r hr') (by omega)) fun H4 acc' s4 hD4 hA' => ?_
  have l1 := hA.len
  have l2 := hA'.len
  rw [List.length_map] at l1 l2
  have sm1 := small (m - 1) k j (by omega)
  have sm2 := small m (k - 1) j (by omega)
  have s34 := s3.trans s4
  refine ⟨D, D', _, _, rfl, rfl, s34 _ _ hD2, hD4, by rw [List.length_map, List.length_map]; exact small13 (by omega), fun t ht => ?_⟩
  have sx := same_new ht (.lst (acc.map V.ref ++ acc'.map V.ref))
  have s14 := s1.trans (s2.trans s34)
  refine q t (acc ++ acc') _ (s14.trans sx) (s14.free ht) (by rw [upd_same, List.map_append]) ?_
  rw [hfold]
  refine RowsOf.app ?_ ?_
  · refine (hA'.mono sx).back ?_
    exact (s1.trans (s2.trans s3)).trans (same_new hD' _)
  · exact (hA.mono (s34.trans sx)).back (s1.trans (same_new hD _))
/-- the calls: level n + 1 for n calls left -/
theorem all_rows {f : Addr} {fd : FuncData} (F : Fun K "_law_rows" "_law_rows" sRows f fd) (bG : Binds K fd ["_law_one_here", "_law_two"] []) (mG : mg "_law_rows" = some (.ref f)) : ∀ n, FnOk P w K mg base CX0 (n + 1) f fd ["_law_one_here", "_law_two"] (spRows n)
  | 0 => ok_rows F (.inl rfl) bG mG
  | n + 1 => ok_rows F (.inr ⟨n, rfl, all_rows F bG mG n⟩) bG mG
end
end TA

set_option Elab.async false
set_option maxRecDepth 100000
set_option maxHeartbeats 4000000
namespace TA
open PySem L2 PyProof.Rows
set_option linter.unusedVariables false
structure Txt2 (K : PySem.W.Frag) (mg : Str → Option Value) : Prop where
  two : ∃ t, mg "STEPS" = some (.int 2 t)
  three : ∃ t, mg "MOST_WOVEN" = some (.int 3 t)
  hands : ∃ hA, mg "HANDS" = some (.ref hA) ∧ ∀ H, SqT K H hA [.int 0, .int 1]
def spWeav (K : PySem.W.Frag) : Sp := fun vs H Q _ => ∃ (d : Nat), vs = [.int (d : Int)] ∧ d < 4 ∧
  ∀ (p : Addr) (rs : List Addr) (H' : Hp), Same H H' → H p = none → H' p = some (.lst (rs.map V.ref)) → RowsOf H H' rs (lvl (2 * d) (4 * d)) → Q (.ref p) H'
/-! a walk of n turns, whatever is walked: the word Pv is kept from turn to turn -/
theorem turns {J : It} (n : Nat) {H0 : Hp} {Qd : Hp → Prop} {B : (Hp → Prop) → V → Hp → Prop} (Pv : Nat → Hp → Prop) (start : Pv 0 H0) (last : ∀ H, Pv n H → J.stop n H ∧ Qd H)
    (turn : ∀ i H, i < n → Pv i H → J.go i H ∧ ∀ x H', J.yld i H x H' → B (Pv (i + 1)) x H') :
    ∃ W : Nat → Nat → Hp → Prop, (∃ m, W 0 m H0) ∧ ∀ i m H, W i m H →
      (J.stop i H ∧ Qd H) ∨ (J.go i H ∧ ∃ Nx : Hp → Prop, (∀ H', Nx H' → ∃ m', m' < m ∧ W (i + 1) m' H') ∧ ∀ x H', J.yld i H x H' → B Nx x H') := by
  refine ⟨fun i m H => i + m = n ∧ Pv i H, ⟨n, by omega, start⟩, fun i m H h => ?_⟩
  obtain ⟨hm, word⟩ := h
  cases m with
  | zero =>
    have hin : i = n := by omega
    rw [hin] at word ⊢
    exact Or.inl (last H word)
  | succ m =>
    obtain ⟨go, step⟩ := turn i H (by omega) word
    exact Or.inr ⟨go, Pv (i + 1), fun H' w' => ⟨m, by omega, by omega, w'⟩, step⟩
theorem list_turns {K : PySem.W.Frag} {a : Addr} {xs : List V} {H0 : Hp} {Qd : Hp → Prop} {B : (Hp → Prop) → V → Hp → Prop} (Pv : Nat → Hp → Prop) (start : Pv 0 H0) (still : ∀ i H, i ≤ xs.length → Pv i H → SqL K H a xs)
    (turn : ∀ i x H, xs[i]? = some x → Pv i H → B (Pv (i + 1)) x H) (last : ∀ H, Pv xs.length H → Qd H) :
    ∃ W : Nat → Nat → Hp → Prop, (∃ m, W 0 m H0) ∧ ∀ i m H, W i m H →
      ((Itl K a).stop i H ∧ Qd H) ∨ ((Itl K a).go i H ∧ ∃ Nx : Hp → Prop, (∀ H', Nx H' → ∃ m', m' < m ∧ W (i + 1) m' H') ∧ ∀ x H', (Itl K a).yld i H x H' → B Nx x H') :=
  turns xs.length Pv start (fun H w => ⟨⟨xs, still _ H (Nat.le_refl _) w, Nat.le_refl _⟩, last H w⟩) fun i H hi w =>
    have there := still i H (Nat.le_of_lt hi) w
    ⟨⟨xs, xs[i], there, List.getElem?_eq_getElem hi⟩, fun x H' ⟨same, given⟩ => by rw [same]; exact turn i x H (given xs there) w⟩
theorem tup_turns {K : PySem.W.Frag} {a : Addr} {xs : List V} {H0 : Hp} {Qd : Hp → Prop} {B : (Hp → Prop) → V → Hp → Prop} (Pv : Nat → Hp → Prop) (start : Pv 0 H0) (still : ∀ i H, i ≤ xs.length → Pv i H → SqT K H a xs)
    (turn : ∀ i x H, xs[i]? = some x → Pv i H → B (Pv (i + 1)) x H) (last : ∀ H, Pv xs.length H → Qd H) :
    ∃ W : Nat → Nat → Hp → Prop, (∃ m, W 0 m H0) ∧ ∀ i m H, W i m H →
      ((Itt K a).stop i H ∧ Qd H) ∨ ((Itt K a).go i H ∧ ∃ Nx : Hp → Prop, (∀ H', Nx H' → ∃ m', m' < m ∧ W (i + 1) m' H') ∧ ∀ x H', (Itt K a).yld i H x H' → B Nx x H') :=
  turns xs.length Pv start (fun H w => ⟨⟨xs, still _ H (Nat.le_refl _) w, Nat.le_refl _⟩, last H w⟩) fun i H hi w =>
    have there := still i H (Nat.le_of_lt hi) w
    ⟨⟨xs, xs[i], there, List.getElem?_eq_getElem hi⟩, fun x H' ⟨same, given⟩ => by rw [same]; exact turn i x H (given xs there) w⟩
def kidsTo (s : Nat) (b : List Int) (j : Nat) : List (List Int) := ((([0, 1] : List Int).take j).filter fun h => decide (b.count h < s)).map fun h => b ++ [h]
theorem kidsTo_len (s : Nat) (b : List Int) (j : Nat) : (kidsTo s b j).length ≤ 2 := by
  unfold kidsTo
  rw [List.length_map]
  refine Nat.le_trans (List.length_filter_le _ _) ?_
  rw [List.length_take]
  exact Nat.min_le_right _ _
theorem kidsTo_yes {s : Nat} {b : List Int} {j : Nat} {h : Int} (e : ([0, 1] : List Int)[j]? = some h) (c : b.count h < s) : kidsTo s b (j + 1) = kidsTo s b j ++ [b ++ [h]] := by
  unfold kidsTo
  rw [List.take_add_one, e, List.filter_append, List.map_append]
  simp [c]
theorem kidsTo_no {s : Nat} {b : List Int} {j : Nat} {h : Int} (e : ([0, 1] : List Int)[j]? = some h) (c : ¬ b.count h < s) : kidsTo s b (j + 1) = kidsTo s b j := by
  unfold kidsTo
  rw [List.take_add_one, e, List.filter_append, List.map_append]
  simp [c]
theorem lvl_row (s : Nat) : ∀ k, ∀ b ∈ lvl s k, b.length = k
  | 0 => fun b h => by
    have e : b = [] := by simpa [lvl] using h
    rw [e]
    rfl
  | k + 1 => fun b h => by
    obtain ⟨c, hc, hb⟩ := List.mem_flatMap.mp (show b ∈ (lvl s k).flatMap (kids s) from h)
    unfold kids at hb
    obtain ⟨x, _, rfl⟩ := List.mem_map.mp hb
    rw [List.length_append, lvl_row s k c hc]
    rfl
section
variable {P : Program} {w : World} {K : PySem.W.Frag} {mg : Str → Option Value} {base : Heap}
abbrev nWeav : List Str := ["rounds", "steps", "woven", "begun", "hand"]
theorem scWeav : FnScope nWeav ["rounds"] (defScope sWeav) := ⟨rfl, rfl, rfl, by decide +kernel, rfl, by decide +kernel, by decide +kernel⟩
theorem ok_weav {f g : Addr} {fd gd : FuncData} (F : Fun K "weavings" "weavings" sWeav f fd) (T : Txt K mg) (U : Txt2 K mg) (G : FnOk P w K mg base CX0 2 g gd ["thing", "least", "most"] spWithin) (bG : Binds K gd ["thing", "least", "most"] []) (kG : PySem.W.keepIn K (.ref g) = true) (mG : mg "is_whole_within" = some (.ref g)) :
    FnOk P w K mg base CX0 3 f fd ["rounds"] (spWeav K) := by
  refine F.ok scWeav (fun vs H Q E h => ?_) (fun cdv A outer s H vs Q E hr h => ?_)
  · obtain ⟨d, rfl, _⟩ := h
    rfl
  obtain ⟨d, rfl, hd, q⟩ := h
  obtain ⟨t2, m2⟩ := U.two
  obtain ⟨t3, m3⟩ := U.three
  obtain ⟨hA, mH, hH⟩ := U.hands
  have nd := scWeav.nd
  refine ⟨_, pss_cons (ps_if (pt_not (pt_val (pe_call G hr rfl mG kG bG .nil pass0 (pa_cons (pv 0) (pa_cons pe_int (pa_cons (pe_glob (v := .int 3) rfl m3 ⟨_, rfl⟩) pa_nil)))))) pss_never pss_nil)
    (pss_cons (ps_set (i := 1) nd rfl (Or.inr rfl) (pe_op op_mul (pe_glob (v := .int 2) rfl m2 ⟨_, rfl⟩) (pv 0)))
    (pss_cons (ps_set (i := 2) nd rfl (Or.inl rfl) (pe_lst (pa_cons (pe_lst pa_nil) pa_nil)))
    (pss_cons (ps_while PassesOwn.never (pt_cmpR op_lt (pe_callB call_len_seq (by rfl) T.len PySem.boot_len (pa_cons (pe_ix ix_list (pv 2) pe_int (fun _ _ => rfl)) pa_nil)) (pe_op op_mul (pv 1) (pe_callB call_len_seq (by rfl) T.len PySem.boot_len (pa_cons (pe_glob (v := .ref hA) rfl mH rfl) pa_nil))) (nomark _))
        (pss_one (ps_setLc2 (i := 2) (own := [("begun", 3), ("hand", 4)]) (vs1 := [4]) (wi1 := iTup K (tC (.ref hA))) (tt1 := tTest (tOp (rI0 fun i j => .bl (decide (i < j))) (tBM K "list" (rCntI K) (tVar 3) (tCons (tVar 4) tNil)) (tVar 1))) rfl nd rfl rfl (sw_true rfl rfl rfl (by decide +kernel)) (pi_list (pv 2)) (blkOk_by (N := nWeav) (sc := defScope sWeav) (by decide +kernel)) (by decide)
          (fun _ _ _ _ _ => pg_name (i := 3) nd rfl (Or.inl rfl)) (fun _ _ _ _ _ => pts_nil) (fun _ _ _ _ _ => (by refine pi_tup ?_; exact pe_glob (v := .ref hA) rfl mH rfl)) (fun _ _ _ _ _ => pg_name (i := 4) nd rfl (Or.inl rfl))
          (fun _ _ _ _ _ => (by refine pts_one ?_; refine pt_cmpR op_lt ?_ (pv 1) (nomark _); exact pe_bm PySem.F.plainAttrs_list PySem.F.slot_list_count PySem.F.type_list_count mt_lcount (pv 3) (pa_cons (pv 4) pa_nil)))
          (fun _ _ _ _ _ => pe_op op_cat (pv 3) (pe_lst (pa_cons (pv 4) pa_nil))))))
    (pss_one (ps_ret (pv 2)))))), ?_⟩
  refine ⟨_, rfl, (d : Int), 0, 3, rfl, ?_⟩
  have e3 : decide ((0 : Int) ≤ (d : Int) ∧ (d : Int) ≤ 3) = true := decide_eq_true (by omega)
  refine ⟨true, congrArg V.bl e3, ?_⟩
  refine iteF ?_
  refine ⟨_, rfl, _, _, rfl, rfl, .inl ⟨by decide, by decide⟩, ?_⟩
  refine ⟨Nat.zero_le _, fun p0 h0 => ⟨(by show 1 ≤ sizeLine; decide), fun p hp => ?_⟩⟩
  refine ⟨fun m σ Hc => ∃ (k : Nat) (p : Addr) (rs : List Addr), m = 4 * d - k ∧ k ≤ 4 * d ∧ σ = [some (.int (d : Int)), some (.int (2 * (d : Int))), some (.ref p), none, none] ∧ Same H Hc ∧ H p = none ∧ Hc p = some (.lst (rs.map V.ref)) ∧ RowsOf H Hc rs (lvl (2 * d) k), ⟨4 * d, 0, p, [p0], rfl, Nat.zero_le _, rfl, ?_⟩, ?_⟩
  · have s0 := same_new h0 (.lst [])
    exact ⟨s0.trans (same_new hp _), s0.free hp, upd_same, .cons h0 (by rw [upd_ne (ne_of_none upd_same hp), upd_same]; rfl) .nil⟩
  rintro m σ Hc ⟨k, p, rs, rfl, hk, rfl, sc, hp0, hL, hR⟩
  obtain ⟨b0, rr, e0, hb0, hrr⟩ := lvl_head hd (k := k) (by omega)
  obtain ⟨r0, rs', rfl, hr0⟩ : ∃ r0 rs', rs = r0 :: rs' ∧ Hc r0 = some (.lst (b0.map V.int)) := by
    rw [e0] at hR
    cases hR with
    | cons _ h2 _ => exact ⟨_, _, rfl, h2⟩
  refine ⟨_, rfl, p, _, _, .ref r0, rfl, rfl, SqL.of hL, (by show atI _ ((0 : Nat) : Int) = _; exact atI_nat rfl), r0, _, rfl, .inl (SqL.of hr0), _, rfl, hA, _, rfl, .inr (hH _), _, _, rfl, rfl, .inr ⟨by decide, by decide⟩, _, _, rfl, rfl, _, rfl, ?_⟩
  refine ite2 (fun c => ?_) (fun c => ?_)
  · have c' : (((b0.map V.int).length : Nat) : Int) < 2 * (d : Int) * 2 := of_decide_eq_true c
    rw [List.length_map, hb0] at c'
    refine ⟨fun σ H' => ∃ (p : Addr) (rs : List Addr), σ = [some (.int (d : Int)), some (.int (2 * (d : Int))), some (.ref p), none, none] ∧ Same H H' ∧ H p = none ∧ H' p = some (.lst (rs.map V.ref)) ∧ RowsOf H H' rs (lvl (2 * d) (k + 1)),
      fun σ' H' ⟨p', rs2, h1, h2, h3, h4, h5⟩ => ⟨4 * d - (k + 1), by omega, k + 1, p', rs2, rfl, by omega, h1, h2, h3, h4, h5⟩, ?_⟩
    refine ⟨_, rfl, p, rfl, ⟨_, SqL.of hL⟩, fun D hD => ?_⟩
    have hwl : (lvl (2 * d) k).length ≤ 1000 := by rw [e0, List.length_cons]; omega
    refine list_turns (xs := (r0 :: rs').map V.ref) (fun i H2 => Same Hc H2 ∧ ∃ acc : List Addr, H2 D = some (.lst (acc.map V.ref)) ∧ RowsOf (upd Hc D (.lst [])) H2 acc (grow (2 * d) ((lvl (2 * d) k).take i))) ?_ ?_ ?_ ?_
    · exact ⟨same_new hD _, [], upd_same, .nil⟩
    · rintro i H2 _ ⟨s, _⟩
      exact SqL.of (s _ _ hL)
    · rintro i x H2 hx ⟨s, acc, hacc, hacR⟩
      obtain ⟨r, b, rfl, hb, _, hr1⟩ := hR.get hx
      refine ⟨rfl, hA, rfl, ⟨_, hH _⟩, ?_⟩
      refine tup_turns (xs := [V.int 0, V.int 1]) (fun j H3 => Same Hc H3 ∧ ∃ acc : List Addr, H3 D = some (.lst (acc.map V.ref)) ∧ RowsOf (upd Hc D (.lst [])) H3 acc (grow (2 * d) ((lvl (2 * d) k).take i) ++ kidsTo (2 * d) b j)) ?_ ?_ ?_ ?_
      · exact ⟨s, acc, hacc, by rw [show kidsTo (2 * d) b 0 = [] from rfl, List.append_nil]; exact hacR⟩
      · intro j H3 _ _
        exact hH _
      · rintro j y H3 hy ⟨s3, acc3, hacc3, hR3⟩
        obtain ⟨h, rfl, hh⟩ : ∃ h : Int, y = .int h ∧ ([0, 1] : List Int)[j]? = some h := by
          rcases j with _ | _ | j
          · exact ⟨0, by simpa using hy.symm, rfl⟩
          · exact ⟨1, by simpa using hy.symm, rfl⟩
          · simp at hy
        have hr3 := s3 _ _ hr1
        have hbl := lvl_row _ _ b (List.mem_of_getElem? hb)
        have hil : i < (lvl (2 * d) k).length := (List.getElem?_eq_some_iff.mp hb).1
        have hal : acc3.length ≤ 3000 := by
          have h1 := hR3.len
          have h2 := grow_len (2 * d) ((lvl (2 * d) k).take i)
          have h3 := kidsTo_len (2 * d) b j
          rw [List.length_append] at h1
          rw [List.length_take] at h2
          omega
        refine ⟨rfl, _, rfl, .inl ⟨rfl, _, SqL.of hr3⟩, _, rfl, r, b, h, rfl, rfl, SqL.of hr3, _, rfl, _, _, rfl, rfl, _, rfl, ?_⟩
        refine ite2 (fun c2 => ?_) (fun c2 => ?_)
        · have c3 : ((b.count h : Nat) : Int) < 2 * (d : Int) := of_decide_eq_true c2
          refine ⟨_, rfl, _, rfl, (by show 1 ≤ sizeLine; decide), fun q1 h1 => ?_⟩
          have t1 := same_new h1 (.lst [.int h])
          refine ⟨r, q1, _, _, rfl, rfl, t1 _ _ hr3, upd_same, (by rw [List.length_map]; exact small13 (by show b.length + 1 ≤ _; omega)), fun q2 h2 => ?_⟩
          have t2 := t1.trans (same_new h2 (.lst (b.map V.int ++ [V.int h])))
          have n2 : D ≠ q2 := ne_of_none (t1 _ _ hacc3) h2
          refine ⟨_, t2 _ _ hacc3, (by rw [List.length_map]; exact Nat.lt_of_le_of_lt hal (by decide)), fun b' o e => ?_, acc3 ++ [q2], ?_, ?_⟩
          · rw [upd_ne (ne_of_none e hD)]
            exact t2 _ _ (s3 _ _ e)
          · rw [upd_same, List.map_append]
            all_goals rfl
          · rw [kidsTo_yes hh (by omega), ← List.append_assoc]
            refine RowsOf.snoc ((hR3.mono t2).updD upd_same) ?_ ?_
            · rw [upd_ne n2.symm]
              exact s3.free (t1.free h2)
            · rw [upd_ne n2.symm, upd_same, List.map_append]
              all_goals rfl
        · have c3 : ¬ ((b.count h : Nat) : Int) < 2 * (d : Int) := of_decide_eq_false (Bool.eq_false_iff.mpr c2)
          exact ⟨s3, acc3, hacc3, by rw [kidsTo_no hh (by omega)]; exact hR3⟩
      · rintro H3 ⟨s3, acc3, hacc3, hR3⟩
        refine ⟨s3, acc3, hacc3, ?_⟩
        rw [grow_take hb]
        exact hR3
    · rintro H2 ⟨s, acc, hacc, hacR⟩
      rw [List.length_map, hR.len, List.take_length] at hacR
      exact ⟨D, acc, rfl, sc.trans s, sc.free hD, hacc, hacR.back (sc.trans (same_new hD _))⟩
  · have c' : ¬ (((b0.map V.int).length : Nat) : Int) < 2 * (d : Int) * 2 := of_decide_eq_false (Bool.eq_false_iff.mpr c)
    rw [List.length_map, hb0] at c'
    have ek : k = 4 * d := by omega
    subst ek
    exact ⟨_, rfl, q p _ _ sc hp0 hL hR⟩
end
end TA

set_option Elab.async false
set_option maxRecDepth 100000
set_option maxHeartbeats 4000000
namespace TA
open PySem L2 PyProof.Rows
set_option linter.unusedVariables false
def spLaw (K : PySem.W.Frag) : Sp := fun vs H Q _ => ∃ (a : Addr) (ns : List Int), vs = [.ref a] ∧ SqL K H a (ns.map V.int) ∧ ns.length ≤ 63 ∧ ∀ H', Q (.bl true) H'
abbrev nLaw : List Str := ["_law_script", "_law_well_here", "_law_deep", "_law_due", "_law_turn", "_law_found"]
theorem scLaw : FnScope nLaw ["_law_script"] (defScope sLaw) := ⟨rfl, rfl, rfl, by decide +kernel, rfl, by decide +kernel, by decide +kernel⟩
theorem deep_of {i : Nat} {v : V} (h : ([.int 0, .int 1, .int 2, .int 2, .int 3] : List V)[i]? = some v) : ∃ d : Nat, v = .int (d : Int) ∧ d < 4 := by
  rcases i with _ | _ | _ | _ | _ | i
  · exact ⟨0, by simpa using h.symm, by decide⟩
  · exact ⟨1, by simpa using h.symm, by decide⟩
  · exact ⟨2, by simpa using h.symm, by decide⟩
  · exact ⟨2, by simpa using h.symm, by decide⟩
  · exact ⟨3, by simpa using h.symm, by decide⟩
  · simp at h
theorem eqv_self {d : PyData} (h : SeqAt.shaped d = true) : PyData.eqv d d = true := SeqAt.eqv_refl d (SeqAt.canLay_of_shaped h)
section
variable {P : Program} {w : World} {K : PySem.W.Frag} {mg : Str → Option Value} {base : Heap}
structure Def (P : Program) (w : World) (K : PySem.W.Frag) (mg : Str → Option Value) (base : Heap) (x : Str) (ps : List Str) (k : Nat) (sp : Sp) (f : Addr) (fd : FuncData) : Prop where
  G : FnOk P w K mg base CX0 k f fd ps sp
  b : Binds K fd ps []
  k : PySem.W.keepIn K (.ref f) = true
  m : mg x = some (.ref f)
theorem ok_law {f f1 f2 f3 f4 f5 : Addr} {fd d1 d2 d3 d4 d5 : FuncData} (F : Fun K "law" "law" sLaw f fd) (T : Txt K mg)
    (Cell : Def P w K mg base "_law_cell_at" ["_law_script", "_law_k"] 1 (spCell K) f1 d1) (Well : Def P w K mg base "_law_well" ["_law_cell"] 1 spWell f2 d2)
    (One : Def P w K mg base "_law_one" ["_law_well_here", "_law_some"] 2 (spOne K) f3 d3) (Rows : Def P w K mg base "_law_rows" ["_law_one_here", "_law_two"] 13 (spRows 12) f4 d4)
    (Weav : Def P w K mg base "weavings" ["rounds"] 3 (spWeav K) f5 d5) : FnOk P w K mg base CX0 14 f fd ["_law_script"] (spLaw K) := by
  refine F.ok scLaw (fun vs H Q E h => ?_) (fun cdv A outer s H vs Q E hr h => ?_)
  · obtain ⟨a, ns, rfl, _⟩ := h
    rfl
  obtain ⟨a, ns, rfl, hS, h63, q⟩ := h
  have nd := scLaw.nd
  refine ⟨_, pss_cons (ps_set (i := 1) nd rfl (Or.inl rfl) (pe_call Well.G (hr.mono (by decide)) rfl Well.m Well.k Well.b .nil pass0 (pa_cons (pe_call Cell.G (hr.mono (by decide)) rfl Cell.m Cell.k Cell.b .nil pass0 (pa_cons (pv 0) (pa_cons pe_int pa_nil))) pa_nil)))
    (pss_cons (ps_set (i := 2) nd rfl (Or.inl rfl) (pe_call One.G (hr.mono (by decide)) rfl One.m One.k One.b .nil pass0 (pa_cons (pv 1) (pa_cons (pe_lst (pa_cons pe_int (pa_cons pe_int (pa_cons pe_int (pa_cons pe_int (pa_cons pe_int pa_nil)))))) pa_nil))))
    (pss_cons (ps_set (i := 3) nd rfl (Or.inl rfl) (pe_call Rows.G hr rfl Rows.m Rows.k Rows.b .nil pass0 (pa_cons (pe_op op_mul pe_int (pv 2)) (pa_cons (pe_op op_mul pe_int (pv 2)) pa_nil))))
    (pss_cons (ps_if (pt_cmpR op_ne (pe_callB call_len_seq (by rfl) T.len PySem.boot_len (pa_cons (pv 3) pa_nil)) (pe_ix ix_list (pe_lst (pa_cons pe_int (pa_cons pe_int (pa_cons pe_int (pa_cons pe_int pa_nil))))) (pv 2) (fun _ _ => rfl)) (nomark _)) (pss_one (ps_ret pe_bl)) pss_nil)
    (pss_cons (ps_for PassesOwn.never rfl (pi_range1 rfl T.range (pa_cons pe_int pa_nil)) (pg_name (i := 4) nd rfl (Or.inl rfl))
      (pss_cons (ps_set (i := 5) nd rfl (Or.inl rfl) (pe_call Weav.G (hr.mono (by decide)) rfl Weav.m Weav.k Weav.b .nil pass0 (pa_cons (pv 2) pa_nil)))
      (pss_cons (ps_if (PW.pt (pw_or (pt_not (pt_val (pe_callB call_isi (by rfl) T.isi boot_isinstance (pa_cons (pv 5) (pa_cons (pe_bltn (v := .ty "list") (by rfl) T.list boot_list rfl) pa_nil))))) (pw_or1 (pt_cmpR (op_neD hr.units) (pv 5) (pv 3) (nomark _))))) (pss_one (ps_ret pe_bl)) pss_nil)
      (pss_cons (ps_expr (pe_bm PySem.F.plainAttrs_list PySem.F.slot_list_append PySem.F.type_list_append mt_append (pe_ix ix_list (pv 5) pe_int (fun _ _ => rfl)) (pa_cons pe_int pa_nil)))
      (pss_one (ps_expr (pe_bm0 PySem.F.plainAttrs_list PySem.F.slot_list_pop PySem.F.type_list_pop mt_pop (pv 5))))))))
    (pss_one (ps_ret (pe_cmpR (op_eqD hr.units) (pe_call Weav.G (hr.mono (by decide)) rfl Weav.m Weav.k Weav.b .nil pass0 (pa_cons pe_int pa_nil)) (pe_lst (pa_cons (pe_lst pa_nil) pa_nil)) (nomark _)))))))), ?_⟩
  refine ⟨_, rfl, a, ns, 0, rfl, hS, by omega, Int.le_refl 0, fun c => ?_⟩
  refine ⟨c, rfl, fun p x y hp hx hy hy2 => ?_⟩
  refine ⟨_, rfl, (by show 5 ≤ sizeLine; decide), fun l hl => ?_⟩
  have npl : p ≠ l := ne_of_none upd_same hl
  refine ⟨p, l, x, y, 0, _, rfl, by rw [upd_ne npl]; exact upd_same, hx, hy, hy2, by decide, by decide, upd_same, npl, by decide, by decide, fun i v x' z' hv hx' hz1 hz2 => ?_⟩
  obtain ⟨d, rfl, hd⟩ := deep_of hv
  have ed : ((2 * d : Nat) : Int) = 2 * (d : Int) := by omega
  refine ⟨_, rfl, _, _, rfl, rfl, .inl ⟨by decide, by decide⟩, _, rfl, _, _, rfl, rfl, .inl ⟨by decide, by decide⟩, 2 * d, 2 * d, (by rw [ed]; rfl), by omega, by decide, fun pd rd H1 s1 hpd hLd hRd => ?_⟩
  rw [← lvl_rows d hd] at hRd
  refine ⟨_, rfl, pd, _, rfl, .inl (SqL.of hLd), (by show 4 ≤ sizeLine; decide), fun l2 hl2 => ?_⟩
  have s2 := same_new hl2 (.lst [.int 1, .int 6, .int 70, .int 924])
  have hmany := lvl_many d hd
  have hat : atI [V.int 1, V.int 6, V.int 70, V.int 924] (d : Int) = some (.int ((lvl (2 * d) (4 * d)).length : Int)) := atI_nat (by
    have := congrArg (Option.map V.int) hmany
    rw [← List.getElem?_map] at this
    exact this)
  refine ⟨_, rfl, l2, _, _, _, rfl, rfl, SqL.of upd_same, hat, rfl, _, rfl, ?_⟩
  have el : V.int (((rd.map V.ref).length : Nat) : Int) = V.int ((lvl (2 * d) (4 * d)).length : Int) := by rw [List.length_map, hRd.len]
  rw [decide_eq_true el]
  refine iteF ?_
  refine ⟨2, rfl, by decide, by decide, for_range (n := 2) (fun i σ Hc => ∃ (t g : Option V), σ = [some (.ref a), some (.ref p), some (.int (d : Int)), some (.ref pd), t, g] ∧ Hc pd = some (.lst (rd.map V.ref)) ∧ RowsOf (fun _ => none) Hc rd (lvl (2 * d) (4 * d))) ?_ ?_ ?_⟩
  · exact ⟨none, none, rfl, s2 _ _ hLd, (hRd.mono s2).back (fun _ _ e => by cases e)⟩
  · rintro i σ Hc hi ⟨t, g, rfl, hc, hcR⟩
    refine ⟨_, rfl, d, rfl, hd, fun pf rf H2 sf hpf hLf hRf => ?_⟩
    refine ⟨_, rfl, .ref pf, .ty "list", _, _, true, rfl, .ty "list", .base (.lst hLf), kit_ty (by decide +kernel), true, rfl, ?_⟩
    refine iteF ?_
    have sh := lvl_shaped d hd
    refine ⟨_, rfl, _, rfl, toD (lvl (2 * d) (4 * d)), toD (lvl (2 * d) (4 * d)), .lst (SqL.of hLf) hRf.dp, .lst (SqL.of (sf _ _ hc)) (hcR.mono sf).dp, sh, sh, _, rfl, ?_⟩
    rw [eqv_self sh]
    refine iteF ?_
    obtain ⟨b0, rr, e0, hb0, _⟩ := lvl_head hd (k := 4 * d) (by omega)
    obtain ⟨r0, rs', rfl, hr0, hr00⟩ : ∃ r0 rs', rf = r0 :: rs' ∧ H2 r0 = some (.lst (b0.map V.int)) ∧ Hc r0 = none := by
      rw [e0] at hRf
      cases hRf with
      | cons h1 h2 _ => exact ⟨_, _, rfl, h2, h1⟩
    have nfr : pf ≠ r0 := fun e => by
      rw [e, hr0] at hLf
      injection hLf with h1
      injection h1 with h2
      cases b0 with
      | nil => cases h2
      | cons c cs => injection h2 with h3 _; cases h3
    refine ⟨_, rfl, pf, _, _, .ref r0, rfl, rfl, SqL.of hLf, (by show atI _ ((0 : Nat) : Int) = _; exact atI_nat rfl), .inl ⟨rfl, _, SqL.of hr0⟩, r0, _, _, rfl, rfl, hr0, ?_, ?_⟩
    · rw [List.length_map, hb0]
      exact Nat.lt_of_le_of_lt (show 4 * d ≤ 16 by omega) (by decide)
    obtain ⟨y1, hy1⟩ : ∃ y, ((r0 :: rs').map V.ref)[((r0 :: rs').map V.ref).length - 1]? = some y := ⟨_, List.getElem?_eq_getElem (by rw [List.map_cons, List.length_cons]; omega)⟩
    have hL2 : (upd H2 r0 (.lst (b0.map V.int ++ [.int 0]))) pf = some (.lst ((r0 :: rs').map V.ref)) := by rw [upd_ne nfr]; exact hLf
    refine ⟨_, rfl, .inl ⟨rfl, _, SqL.of hL2⟩, pf, _, y1, rfl, rfl, hL2, hy1, ?_⟩
    have sk : Same Hc (upd (upd H2 r0 (.lst (b0.map V.int ++ [.int 0]))) pf (.lst ((r0 :: rs').map V.ref).dropLast)) := fun b o e => by
      rw [upd_ne (ne_of_none e hpf), upd_ne (ne_of_none e hr00)]
      exact sf _ _ e
    exact ⟨_, _, rfl, sk _ _ hc, hcR.mono sk⟩
  · rintro σ Hc ⟨t, g, rfl, hc, hcR⟩
    refine ⟨0, rfl, by decide, fun pf rf H2 sf hpf hLf hRf => ?_⟩
    refine ⟨Nat.zero_le _, fun u1 hu1 => ⟨(by show 1 ≤ sizeLine; decide), fun u2 hu2 => ?_⟩⟩
    have k1 := same_new hu1 (.lst [])
    have k2 := k1.trans (same_new hu2 (.lst [.ref u1]))
    have hu := same_new hu2 (.lst [.ref u1]) _ _ (upd_same (H := H2) (a := u1) (o := .lst []))
    have sh := lvl_shaped 0 (by decide)
    refine ⟨toD (lvl (2 * 0) (4 * 0)), toD [[]], .lst (SqL.of (k2 _ _ hLf)) (hRf.mono k2).dp, .lst (SqL.of upd_same) (.cons (.lst (SqL.of hu) .nil) .nil), sh, sh, ?_⟩
    rw [show PyData.eqv (toD (lvl (2 * 0) (4 * 0))) (toD [[]]) = true from eqv_self sh]
    exact q _
end
end TA

set_option Elab.async false
set_option maxRecDepth 100000
set_option maxHeartbeats 4000000
namespace TA
open PySem L2 PyProof.Rows
set_option linter.unusedVariables false
theorem all_mk {l : PySem.W.OpenLaw} {w : World} {K : PySem.W.Frag} {h : Heap} {mg : Str → Option Value} {fa f1 f2 f3 f4 f5 f6 f7 f8 f9 hA0: Addr} (X : K.In h) (G : h.Ns mainGlobals mg) (hfa : mg "law" = some (.ref fa))
    {od1 an1 od2 an2 od3 an3 od4 an4 od5 an5 od6 an6 od7 an7 od8 an8 od9 an9 odH0 : Option Addr} {sl1 sl2 sl3 sl4 sl5 sl6 sl7 sl8 sl9 slH0 : Array (Option Value)} {oc1 kV1 dc1 pm1 cd1 ct1 oc2 kV2 dc2 pm2 cd2 ct2 oc3 kV3 dc3 pm3 cd3 ct3 oc4 kV4 dc4 pm4 cd4 ct4 oc5 kV5 dc5 pm5 cd5 ct5 oc6 kV6 dc6 pm6 cd6 ct6 oc7 kV7 dc7 pm7 cd7 ct7 oc8 kV8 dc8 pm8 cd8 ct8 oc9 kV9 dc9 pm9 cd9 ct9 : Value} {tI0 tI1 tT0_0 tT0_1 : Tok} {nH0 : Nat}
    (a1 : PySem.W.nsIn K mainGlobals "is_whole" = some (some (.ref f1))) (l1 : K.lookup f1 = some ⟨oc1, od1, .func (PySem.W.fnOf "is_whole" "is_whole" (defArgs sWhole) (defBody sWhole) (defScope sWhole) .none kV1 dc1 pm1 an1 cd1 ct1), sl1⟩) (c1 : PySem.W.codeIn K cd1 "is_whole" = true) (k1 : PySem.W.keepIn K (.ref f1) = true)
    (a2 : PySem.W.nsIn K mainGlobals "is_whole_within" = some (some (.ref f2))) (l2 : K.lookup f2 = some ⟨oc2, od2, .func (PySem.W.fnOf "is_whole_within" "is_whole_within" (defArgs sWithin) (defBody sWithin) (defScope sWithin) .none kV2 dc2 pm2 an2 cd2 ct2), sl2⟩) (c2 : PySem.W.codeIn K cd2 "is_whole_within" = true) (k2 : PySem.W.keepIn K (.ref f2) = true)
    (a3 : PySem.W.nsIn K mainGlobals "weavings" = some (some (.ref f3))) (l3 : K.lookup f3 = some ⟨oc3, od3, .func (PySem.W.fnOf "weavings" "weavings" (defArgs sWeav) (defBody sWeav) (defScope sWeav) .none kV3 dc3 pm3 an3 cd3 ct3), sl3⟩) (c3 : PySem.W.codeIn K cd3 "weavings" = true) (k3 : PySem.W.keepIn K (.ref f3) = true)
    (a4 : PySem.W.nsIn K mainGlobals "_law_cell_at" = some (some (.ref f4))) (l4 : K.lookup f4 = some ⟨oc4, od4, .func (PySem.W.fnOf "_law_cell_at" "_law_cell_at" (defArgs sCell) (defBody sCell) (defScope sCell) .none kV4 dc4 pm4 an4 cd4 ct4), sl4⟩) (c4 : PySem.W.codeIn K cd4 "_law_cell_at" = true) (k4 : PySem.W.keepIn K (.ref f4) = true)
    (a5 : PySem.W.nsIn K mainGlobals "_law_well" = some (some (.ref f5))) (l5 : K.lookup f5 = some ⟨oc5, od5, .func (PySem.W.fnOf "_law_well" "_law_well" (defArgs sWell) (defBody sWell) (defScope sWell) .none kV5 dc5 pm5 an5 cd5 ct5), sl5⟩) (c5 : PySem.W.codeIn K cd5 "_law_well" = true) (k5 : PySem.W.keepIn K (.ref f5) = true)
    (a6 : PySem.W.nsIn K mainGlobals "_law_draw" = some (some (.ref f6))) (l6 : K.lookup f6 = some ⟨oc6, od6, .func (PySem.W.fnOf "_law_draw" "_law_draw" (defArgs sDraw) (defBody sDraw) (defScope sDraw) .none kV6 dc6 pm6 an6 cd6 ct6), sl6⟩) (c6 : PySem.W.codeIn K cd6 "_law_draw" = true) (k6 : PySem.W.keepIn K (.ref f6) = true)
    (a7 : PySem.W.nsIn K mainGlobals "_law_one" = some (some (.ref f7))) (l7 : K.lookup f7 = some ⟨oc7, od7, .func (PySem.W.fnOf "_law_one" "_law_one" (defArgs sOne) (defBody sOne) (defScope sOne) .none kV7 dc7 pm7 an7 cd7 ct7), sl7⟩) (c7 : PySem.W.codeIn K cd7 "_law_one" = true) (k7 : PySem.W.keepIn K (.ref f7) = true)
    (a8 : PySem.W.nsIn K mainGlobals "_law_rows" = some (some (.ref f8))) (l8 : K.lookup f8 = some ⟨oc8, od8, .func (PySem.W.fnOf "_law_rows" "_law_rows" (defArgs sRows) (defBody sRows) (defScope sRows) .none kV8 dc8 pm8 an8 cd8 ct8), sl8⟩) (c8 : PySem.W.codeIn K cd8 "_law_rows" = true) (k8 : PySem.W.keepIn K (.ref f8) = true)
    (a9 : PySem.W.nsIn K mainGlobals "law" = some (some (.ref f9))) (l9 : K.lookup f9 = some ⟨oc9, od9, .func (PySem.W.fnOf "law" "law" (defArgs sLaw) (defBody sLaw) (defScope sLaw) .none kV9 dc9 pm9 an9 cd9 ct9), sl9⟩) (c9 : PySem.W.codeIn K cd9 "law" = true) (k9 : PySem.W.keepIn K (.ref f9) = true)
    (z0 : PySem.W.nsIn K mainGlobals "isinstance" = some none)
    (z1 : PySem.W.nsIn K mainGlobals "int" = some none)
    (z2 : PySem.W.nsIn K mainGlobals "bool" = some none)
    (z3 : PySem.W.nsIn K mainGlobals "len" = some none)
    (z4 : PySem.W.nsIn K mainGlobals "range" = some none)
    (z5 : PySem.W.nsIn K mainGlobals "list" = some none)
    (i0 : PySem.W.nsIn K mainGlobals "STEPS" = some (some (.int 2 tI0)))
    (i1 : PySem.W.nsIn K mainGlobals "MOST_WOVEN" = some (some (.int 3 tI1)))
    (t0 : PySem.W.nsIn K mainGlobals "HANDS" = some (some (.ref hA0))) (u0 : K.lookup hA0 = some ⟨.type "tuple", odH0, .seq (Array.mk [.int 0 tT0_0, .int 1 tT0_1]) nH0, slH0⟩)
    : ∃ fd : FuncData, (∀ (s : Shared) (v : Value), BindsTo s fd ⟨[v], []⟩ [("_law_script", v)]) ∧ ∀ base : Heap, K.In base → base.Ns mainGlobals mg → FnOk l.prog w K mg base CX0 14 fa fd ["_law_script"] (spLaw K) := by
  have e := hfa.symm.trans (PySem.W.mg_of X G a9)
  cases e
  have F1 := fun_mk (st := sWhole) l1 c1 k1
  have b1 := F1.binds (ps := ["thing"]) fun _ _ _ _ _ _ us hl => match us, hl with | [_], _ => rfl
  have F2 := fun_mk (st := sWithin) l2 c2 k2
  have b2 := F2.binds (ps := ["thing", "least", "most"]) fun _ _ _ _ _ _ us hl => match us, hl with | [_, _, _], _ => rfl
  have F3 := fun_mk (st := sWeav) l3 c3 k3
  have b3 := F3.binds (ps := ["rounds"]) fun _ _ _ _ _ _ us hl => match us, hl with | [_], _ => rfl
  have F4 := fun_mk (st := sCell) l4 c4 k4
  have b4 := F4.binds (ps := ["_law_script", "_law_k"]) fun _ _ _ _ _ _ us hl => match us, hl with | [_, _], _ => rfl
  have F5 := fun_mk (st := sWell) l5 c5 k5
  have b5 := F5.binds (ps := ["_law_cell"]) fun _ _ _ _ _ _ us hl => match us, hl with | [_], _ => rfl
  have F6 := fun_mk (st := sDraw) l6 c6 k6
  have b6 := F6.binds (ps := ["_law_well_here", "_law_many"]) fun _ _ _ _ _ _ us hl => match us, hl with | [_, _], _ => rfl
  have F7 := fun_mk (st := sOne) l7 c7 k7
  have b7 := F7.binds (ps := ["_law_well_here", "_law_some"]) fun _ _ _ _ _ _ us hl => match us, hl with | [_, _], _ => rfl
  have F8 := fun_mk (st := sRows) l8 c8 k8
  have b8 := F8.binds (ps := ["_law_one_here", "_law_two"]) fun _ _ _ _ _ _ us hl => match us, hl with | [_, _], _ => rfl
  have F9 := fun_mk (st := sLaw) l9 c9 k9
  have T : Txt K mg := ⟨PySem.W.mg_none_of X G z0, PySem.W.mg_none_of X G z1, PySem.W.mg_none_of X G z2, PySem.W.mg_none_of X G z3, PySem.W.mg_none_of X G z4, PySem.W.mg_none_of X G z5⟩
  have U : Txt2 K mg := ⟨⟨_, PySem.W.mg_of X G i0⟩, ⟨_, PySem.W.mg_of X G i1⟩, ⟨_, PySem.W.mg_of X G t0, fun H => .inr ⟨_, _, _, u0, rfl, rfl, (by show 2 ≤ sizeLine; decide), .cons ⟨_, rfl⟩ (.cons ⟨_, rfl⟩ .nil)⟩⟩⟩
  refine ⟨PySem.W.fnOf "law" "law" (defArgs sLaw) (defBody sLaw) (defScope sLaw) .none kV9 dc9 pm9 an9 cd9 ct9, fun s v => .of_eq rfl, fun base _ _ => ?_⟩
  have g1 := ok_whole (P := l.prog) (w := w) (base := base) F1 T
  have g2 := ok_within F2 g1 b1 k1 (PySem.W.mg_of X G a1)
  have g3 := ok_weav F3 T U g2 b2 k2 (PySem.W.mg_of X G a2)
  have g4 := ok_cell (P := l.prog) (w := w) (base := base) F4 T
  have g5 := ok_well (P := l.prog) (w := w) (base := base) F5 T
  have g6 := ok_draw (P := l.prog) (w := w) (mg := mg) (base := base) F6
  have g7 := ok_one F7 T g6 b6 k6 (PySem.W.mg_of X G a6)
  have g8 := all_rows (P := l.prog) (w := w) (base := base) F8 b8 (PySem.W.mg_of X G a8) 12
  exact ok_law F9 T ⟨g4, b4, k4, PySem.W.mg_of X G a4⟩ ⟨g5, b5, k5, PySem.W.mg_of X G a5⟩ ⟨g7, b7, k7, PySem.W.mg_of X G a7⟩ ⟨g8, b8, k8, PySem.W.mg_of X G a8⟩ ⟨g3, b3, k3, PySem.W.mg_of X G a3⟩
theorem walk {l : PySem.W.OpenLaw} {q : Program} {loose : List Str} {XP : (Str → Option Value) → Heap → Prop} {YP : World → Heap → Prop} {d : DefRec} {K : Params → PySem.W.Frag} (hn : l.most = some 63) (hdf : d.params.defaults = [])
    (hY : ∀ (w : World) (h : Heap), YP w h → (K w.params).In h)
    (F : ∀ (w : World) (mg : Str → Option Value) (fa : Addr) (h : Heap), (K w.params).In h → h.Ns mainGlobals mg → mg d.name = some (.ref fa) →
      ∃ fd : FuncData, (∀ (s : Shared) (u : Value), BindsTo s fd ⟨[u], []⟩ [("_law_script", u)]) ∧ ∀ base : Heap, (K w.params).In base → base.Ns mainGlobals mg → FnOk l.prog w (K w.params) mg base CX0 14 fa fd ["_law_script"] (spLaw (K w.params))) :
    PySem.W.WalkO q loose XP YP l.row.toRowW d [] (fun f vs => PySem.call f vs) :=
  L2.walk_of (n := 63) (k := 14) (x := "_law_script") (CX := fun _ => CX0) (sp := fun w => spLaw (K w.params)) hn (by decide) hdf ⟨rfl, by decide, by decide⟩ hY F (fun _ _ a ns hl _ hS => ⟨a, ns, rfl, hS, hl, fun _ => rfl⟩) fun _ _ _ _ _ z => z
end TA
open PySem PySem.W PyProof.Rows
set_option maxRecDepth 100000 in
set_option maxHeartbeats 0 in
theorem PySem.Challenge.cw_twoalone_k13_all_weavings_holds : PySem.Challenge.rw_twoalone_k13_all_weavings.Holds := by
  w_on; o_law; k_head; (case hw => w_witness2)
  k_fill
  refine TA.walk (l := PySem.Challenge.rw_twoalone_k13_all_weavings) rfl rfl (fun w h Y => PySem.W.kIn_of Y) ?F
  case F =>
    intro w mg fa h KX G hmg
    refine' TA.all_mk KX G hmg ?a1 ?l1 ?c1 ?k1 ?a2 ?l2 ?c2 ?k2 ?a3 ?l3 ?c3 ?k3 ?a4 ?l4 ?c4 ?k4 ?a5 ?l5 ?c5 ?k5 ?a6 ?l6 ?c6 ?k6 ?a7 ?l7 ?c7 ?k7 ?a8 ?l8 ?c8 ?k8 ?a9 ?l9 ?c9 ?k9 ?z0 ?z1 ?z2 ?z3 ?z4 ?z5 ?i0 ?i1 ?t0 ?u0
    (case a1 => k_is); (case l1 => k_is); (case c1 => k_is); (case k1 => k_is); (case a2 => k_is); (case l2 => k_is); (case c2 => k_is); (case k2 => k_is); (case a3 => k_is); (case l3 => k_is); (case c3 => k_is); (case k3 => k_is); (case a4 => k_is); (case l4 => k_is); (case c4 => k_is); (case k4 => k_is); (case a5 => k_is); (case l5 => k_is); (case c5 => k_is); (case k5 => k_is); (case a6 => k_is); (case l6 => k_is); (case c6 => k_is); (case k6 => k_is); (case a7 => k_is); (case l7 => k_is); (case c7 => k_is); (case k7 => k_is); (case a8 => k_is); (case l8 => k_is); (case c8 => k_is); (case k8 => k_is); (case a9 => k_is); (case l9 => k_is); (case c9 => k_is); (case k9 => k_is); (case z0 => k_is); (case z1 => k_is); (case z2 => k_is); (case z3 => k_is); (case z4 => k_is); (case z5 => k_is); (case i0 => k_is); (case i1 => k_is); (case t0 => k_is); (case u0 => k_is)
