import PyProof.Rows.All
import Wide.All
import OpenK.AllK
import Wide.FinOn
import HandS.ForMost
import HandS.IsInst
import HandS.SetFor
import HandS.Wide
import HandS.Defaults
import HandS.DictTup
import HandS.ExcIs
import HandS.ForExc
import HandS.More
import HandS.Deep
import HandS.EndBits
import KE.KNestM
import PySem.Challenge.RW_twoalone_k18_whole_rounds_one_behind_the
set_option Elab.async false
set_option maxRecDepth 100000
set_option maxHeartbeats 4000000
namespace TA
open PySem L2 PyProof.Rows
set_option linter.unusedVariables false
def top (i : Nat) : Stmt := PySem.Challenge.pw_twoalone_k18_whole_rounds_one_behind_the.main.body.getD i (.Pass ⟨0, 0, 0, 0⟩)
abbrev sWhole : Stmt := top 2
abbrev sWithin : Stmt := top 3
abbrev sHand : Stmt := top 4
abbrev s_AloneError : Stmt := top 6
abbrev s_NoHand : Stmt := top 7
abbrev s_NoRounds : Stmt := top 8
abbrev s_NoInputs : Stmt := top 9
abbrev s_NoWeaving : Stmt := top 10
abbrev s_NoKnown : Stmt := top 11
abbrev sInputs : Stmt := top 15
abbrev sWeaving : Stmt := top 16
abbrev sPut : Stmt := top 17
abbrev sKnown : Stmt := top 18
abbrev s_rounds_behind : Stmt := top 20
abbrev s_agrees : Stmt := top 21
abbrev s_met : Stmt := top 22
abbrev s_standing : Stmt := top 23
abbrev sPlace : Stmt := top 24
abbrev sCell : Stmt := top 26
abbrev sWell : Stmt := top 27
abbrev sDraw : Stmt := top 28
abbrev sOne : Stmt := top 29
abbrev sLawWeav : Stmt := top 30
abbrev s__law_first_steps : Stmt := top 31
abbrev s__law_ahead : Stmt := top 32
abbrev sRight : Stmt := top 33
abbrev sLaw : Stmt := top 34

structure Txt (K : PySem.W.Frag) (mg : Str → Option Value) : Prop where
  isi : mg "isinstance" = none
  int : mg "int" = none
  bool : mg "bool" = none
  len : mg "len" = none
  range : mg "range" = none
  list : mg "list" = none
  tuple : mg "tuple" = none
  all : mg "all" = none
  sum : mg "sum" = none
  min : mg "min" = none
theorem same_new {H : Hp} {p : Addr} (h : H p = none) (o : HO) : Same H (upd H p o) := fun b u q => by rw [upd_ne (ne_of_none q h)]; exact q

/-! the small promises -/
def spWhole : Sp := fun vs H Q _ => ∃ n : Int, vs = [.int n] ∧ Q (.bl true) H
def spWithin : Sp := fun vs H Q _ => ∃ a b c : Int, vs = [.int a, .int b, .int c] ∧ Q (.bl (decide (b ≤ a ∧ a ≤ c))) H
def spCell (K : PySem.W.Frag) : Sp := fun vs H Q _ => ∃ (a : Addr) (ns : List Int) (k : Int), vs = [.ref a, .int k] ∧ SqL K H a (ns.map V.int) ∧ ns.length ≤ 1000 ∧ 0 ≤ k ∧ ∀ c : Int, Q (.int c) H
def spWell : Sp := fun vs H Q _ => ∃ c : Int, vs = [.int c] ∧ ∀ (p : Addr) (x y : Int), H p = none → 0 ≤ x → 0 ≤ y → y < 2147483629 → Q (.ref p) (upd H p (.lst [.int x, .int y, .int 0]))
def spDraw : Sp := fun vs H Q _ => ∃ (a : Addr) (x y z m : Int), vs = [.ref a, .int m] ∧ H a = some (.lst [.int x, .int y, .int z]) ∧ 0 ≤ x ∧ 0 ≤ y ∧ y < 2147483629 ∧ 0 ≤ z ∧ z < 1000000 ∧ 0 < m ∧ m < 2 ^ 100 ∧
  ∀ (r x' z' : Int), 0 ≤ r → r < m → 0 ≤ x' → z ≤ z' → z' ≤ z + 1 → Q (.int r) (upd H a (.lst [.int x', .int y, .int z']))
section
variable {P : Program} {w : World} {K : PySem.W.Frag} {mg : Str → Option Value} {base : Heap}

theorem scWhole : FnScope ["thing"] ["thing"] (defScope sWhole) := ⟨rfl, rfl, rfl, by decide +kernel, rfl, by decide +kernel, by decide +kernel⟩
theorem ok_whole {f : Addr} {fd : FuncData} (F : Fun K "is_whole" "is_whole" sWhole f fd) (T : Txt K mg) : FnOk P w K mg base CX0 1 f fd ["thing"] spWhole := by
  refine F.ok scWhole (fun vs H Q E h => ?_) (fun cdv A outer s H vs Q E hr h => ?_)
  · obtain ⟨n, rfl, _⟩ := h
    rfl
  obtain ⟨n, rfl, q⟩ := h
  refine ⟨_, pss_one (ps_ret (pe_and (pe_callB call_isi (by rfl) T.isi boot_isinstance (pa_cons (pv 0) (pa_cons (pe_bltn (v := .ty "int") (by rfl) T.int boot_int rfl) pa_nil)))
    (pe_one (pe_not (pe_callB call_isi (by rfl) T.isi boot_isinstance (pa_cons (pv 0) (pa_cons (pe_bltn (v := .ty "bool") (by rfl) T.bool boot_bool rfl) pa_nil))))))), ?_⟩
  refine ⟨_, rfl, V.int n, V.ty "int", _, _, true, rfl, .ty "int", .base (.int n), kit_ty (by decide +kernel), true, rfl, iteT ?_⟩
  exact ⟨_, rfl, V.int n, V.ty "bool", _, _, false, rfl, .ty "bool", .base (.int n), kit_ty (by decide +kernel), false, rfl, q⟩

theorem scWithin : FnScope ["thing", "least", "most"] ["thing", "least", "most"] (defScope sWithin) := ⟨rfl, rfl, rfl, by decide +kernel, rfl, by decide +kernel, by decide +kernel⟩
theorem ok_within {f g : Addr} {fd gd : FuncData} (F : Fun K "is_whole_within" "is_whole_within" sWithin f fd) (G : FnOk P w K mg base CX0 1 g gd ["thing"] spWhole) (bG : Binds K gd ["thing"] []) (kG : PySem.W.keepIn K (.ref g) = true) (mG : mg "is_whole" = some (.ref g)) :
    FnOk P w K mg base CX0 2 f fd ["thing", "least", "most"] spWithin := by
  refine F.ok scWithin (fun vs H Q E h => ?_) (fun cdv A outer s H vs Q E hr h => ?_)
  · obtain ⟨a, b, c, rfl, _⟩ := h
    rfl
  obtain ⟨a, b, c, rfl, q⟩ := h
  refine ⟨_, pss_one (ps_ret (pe_and (pe_call G hr rfl mG kG bG .nil pass0 (pa_cons (pv 0) pa_nil)) (pe_one (pe_chain op_le op_le (pv 1) (pv 0) (pv 2))))), ?_⟩
  refine ⟨_, rfl, a, rfl, true, rfl, iteT ?_⟩
  refine ⟨_, rfl, _, rfl, _, _, rfl, rfl, _, rfl, ?_⟩
  by_cases h1 : b ≤ a
  · rw [decide_eq_true h1]
    refine iteT ?_
    refine ⟨_, rfl, _, _, rfl, rfl, ?_⟩
    have e : decide (b ≤ a ∧ a ≤ c) = decide (a ≤ c) := by simp [h1]
    rw [e] at q
    exact q
  · rw [decide_eq_false h1]
    refine iteF ?_
    have e : decide (b ≤ a ∧ a ≤ c) = false := by simp [h1]
    rw [e] at q
    exact q

theorem scCell : FnScope ["_law_script", "_law_k"] ["_law_script", "_law_k"] (defScope sCell) := ⟨rfl, rfl, rfl, by decide +kernel, rfl, by decide +kernel, by decide +kernel⟩
theorem ok_cell {f : Addr} {fd : FuncData} (F : Fun K "_law_cell_at" "_law_cell_at" sCell f fd) (T : Txt K mg) : FnOk P w K mg base CX0 1 f fd ["_law_script", "_law_k"] (spCell K) := by
  refine F.ok scCell (fun vs H Q E h => ?_) (fun cdv A outer s H vs Q E hr h => ?_)
  · obtain ⟨a, ns, k, rfl, _⟩ := h
    rfl
  obtain ⟨a, ns, k, rfl, hS, hn, hk, q⟩ := h
  refine ⟨_, pss_cons (ps_if (pt_cmpR op_lt (pv 1) (pe_callB call_len_seq (by rfl) T.len PySem.boot_len (pa_cons (pv 0) pa_nil)) (nomark _)) (pss_one (ps_ret (pe_ix ix_list (pv 0) (pv 1) (fun _ _ => rfl)))) pss_nil)
    (pss_one (ps_ret pe_int)), ?_⟩
  refine ⟨_, rfl, _, rfl, a, _, rfl, .inl hS, _, _, rfl, rfl, _, rfl, ?_⟩
  refine ite2 (fun c => ?_) (fun c => ?_)
  · have c' : k < (((ns.map V.int).length : Nat) : Int) := of_decide_eq_true c
    rw [List.length_map] at c'
    have hk' : k.toNat < ns.length := by omega
    have ek : k = ((k.toNat : Nat) : Int) := by omega
    have g : atI (ns.map V.int) ((k.toNat : Nat) : Int) = some (.int ns[k.toNat]) := atI_nat (by rw [List.getElem?_map, List.getElem?_eq_getElem hk'] <;> rfl)
    rw [← ek] at g
    exact ⟨_, rfl, _, rfl, a, _, _, _, rfl, rfl, hS, g, q _⟩
  · exact q 0

theorem scWell : FnScope ["_law_cell"] ["_law_cell"] (defScope sWell) := ⟨rfl, rfl, rfl, by decide +kernel, rfl, by decide +kernel, by decide +kernel⟩
theorem ok_well {f : Addr} {fd : FuncData} (F : Fun K "_law_well" "_law_well" sWell f fd) (T : Txt K mg) : FnOk P w K mg base CX0 1 f fd ["_law_cell"] spWell := by
  refine F.ok scWell (fun vs H Q E h => ?_) (fun cdv A outer s H vs Q E hr h => ?_)
  · obtain ⟨c, rfl, _⟩ := h
    rfl
  obtain ⟨c, rfl, q⟩ := h
  refine ⟨_, pss_one (ps_ret (pe_lst (pa_cons (pe_op op_mul (pv 0) (pe_callTy call_int1 (by rfl) T.int boot_int (pa_cons (pe_cmpR op_ge (pv 0) (pe_op op_pow pe_int pe_int) (nomark _)) pa_nil)))
    (pa_cons (pe_op op_mod (pv 0) pe_int) (pa_cons pe_int pa_nil))))), ?_⟩
  refine ⟨_, rfl, _, rfl, _, _, rfl, rfl, ⟨by decide, by decide, by decide⟩, _, _, rfl, rfl, .inr ⟨_, rfl, ?_⟩⟩
  have b : ∀ k : Bool, CMul c (if k = true then 1 else 0) := fun k => .inr (by cases k <;> decide)
  refine ⟨_, _, rfl, rfl, b _, _, rfl, _, _, rfl, rfl, (by show (0 : Int) < 2147483629; decide), (by show 3 ≤ sizeLine; decide), fun p hp => ?_⟩
  have m0 : 0 ≤ c % 2147483629 := Int.emod_nonneg _ (by decide)
  have m1 : c % 2147483629 < 2147483629 := Int.emod_lt_of_pos _ (by decide)
  refine q p _ _ hp ?_ m0 m1
  by_cases hc : c ≥ 10 ^ (18 : Int).toNat
  · rw [decide_eq_true hc]
    have : (0 : Int) ≤ 10 ^ (18 : Int).toNat := by decide
    show 0 ≤ c * 1
    omega
  · rw [decide_eq_false hc]
    show 0 ≤ c * 0
    omega

theorem scDraw : FnScope ["_law_well_here", "_law_many", "_law_found", "_law_number"] ["_law_well_here", "_law_many"] (defScope sDraw) := ⟨rfl, rfl, rfl, by decide +kernel, rfl, by decide +kernel, by decide +kernel⟩
theorem ok_draw {f : Addr} {fd : FuncData} (F : Fun K "_law_draw" "_law_draw" sDraw f fd) : FnOk P w K mg base CX0 1 f fd ["_law_well_here", "_law_many"] spDraw := by
  refine F.ok scDraw (fun vs H Q E h => ?_) (fun cdv A outer s H vs Q E hr h => ?_)
  · obtain ⟨a, x, y, z, m, rfl, _⟩ := h
    rfl
  obtain ⟨a, x, y, z, m, rfl, hL, hx, hy, hy2, hz, hz2, hm, hm2, q⟩ := h
  have nd := scDraw.nd
  refine ⟨_, pss_cons (ps_if (pt_cmpR op_gt (pe_ix ix_list (pv 0) pe_int (fun _ _ => rfl)) pe_int (nomark _))
      (pss_cons (ps_set (i := 2) nd rfl (Or.inl rfl) (pe_op op_mod (pe_ix ix_list (pv 0) pe_int (fun _ _ => rfl)) (pv 1)))
        (pss_cons (ps_asg (pe_op op_fdivW (pe_ix ix_list (pv 0) pe_int (fun _ _ => rfl)) (pv 1)) (pg_sub (pv 0) pe_int set_list))
          (pss_one (ps_ret (pv 2))))) pss_nil)
    (pss_cons (ps_asg (pe_op op_add (pe_ix ix_list (pv 0) pe_int (fun _ _ => rfl)) pe_int) (pg_sub (pv 0) pe_int set_list))
    (pss_cons (ps_set (i := 3) nd rfl (Or.inl rfl) (pe_op op_mod (pe_op op_mul (pe_op op_add (pe_op op_add (pe_ix ix_list (pv 0) pe_int (fun _ _ => rfl)) (pe_op op_mul pe_int (pe_ix ix_list (pv 0) pe_int (fun _ _ => rfl)))) pe_int) pe_int) pe_int))
    (pss_cons (ps_set (i := 3) nd rfl (Or.inl rfl) (pe_op op_mod (pe_op op_mul (pv 3) (pe_op op_add (pe_op op_add (pe_op op_fdiv (pv 3) pe_int) pe_int) (pe_ix ix_list (pv 0) pe_int (fun _ _ => rfl)))) pe_int))
    (pss_one (ps_ret (pe_op op_mod (pe_op op_fdiv (pe_op op_mod (pe_op op_mul (pv 3) (pe_op op_add (pe_op op_fdiv (pv 3) pe_int) pe_int)) pe_int) pe_int) (pv 1))))))), ?_⟩
  refine ⟨_, rfl, a, _, _, _, rfl, rfl, SqL.of hL, rfl, _, _, rfl, rfl, _, rfl, ?_⟩
  refine ite2 (fun c => ?_) (fun c => ?_)
  · have c' : x > 0 := of_decide_eq_true c
    refine ⟨_, rfl, a, _, _, _, rfl, rfl, SqL.of hL, rfl, _, rfl, _, _, rfl, rfl, hm, ?_⟩
    refine ⟨_, rfl, a, _, _, _, rfl, rfl, SqL.of hL, rfl, _, rfl, _, _, rfl, rfl, wide_div (b := 100) hm (by omega) (by decide) (by decide), ?_⟩
    refine ⟨_, rfl, a, _, _, 0, rfl, rfl, hL, rfl, _, rfl, ?_⟩
    exact q _ _ _ (Int.emod_nonneg _ (by omega)) (Int.emod_lt_of_pos _ hm) (Int.ediv_nonneg hx (by omega)) (Int.le_refl _) (by omega)
  · have hL2 : (upd H a (.lst [.int x, .int y, .int (z + 1)])) a = some (.lst [.int x, .int y, .int (z + 1)]) := upd_same
    refine ⟨_, rfl, a, _, _, _, rfl, rfl, SqL.of hL, rfl, _, _, rfl, rfl, ?_⟩
    refine ⟨_, rfl, a, _, _, 2, rfl, rfl, hL, rfl, ?_⟩
    refine ⟨_, rfl, a, _, _, _, rfl, rfl, SqL.of hL2, rfl, _, rfl, a, _, _, _, rfl, rfl, SqL.of hL2, rfl, _, _, rfl, rfl, .inl ⟨by decide, by decide⟩, _, _, rfl, rfl, _, _, rfl, rfl, _, _, rfl, rfl, .inr ⟨by decide, by decide⟩, _, _, rfl, rfl, (by show (0 : Int) < 2147483629; decide), ?_⟩
    have n0 := Int.emod_nonneg ((y + 86969 * (z + 1) + 1) * 48271) (show (2147483629 : Int) ≠ 0 by decide)
    have n1 := Int.emod_lt_of_pos ((y + 86969 * (z + 1) + 1) * 48271) (show (0 : Int) < 2147483629 by decide)
    generalize ((y + 86969 * (z + 1) + 1) * 48271) % 2147483629 = n at n0 n1 ⊢
    refine ⟨_, rfl, _, rfl, _, _, rfl, rfl, ⟨by decide, by decide⟩, _, _, rfl, rfl, _, rfl, a, _, _, _, rfl, rfl, SqL.of hL2, rfl, _, _, rfl, rfl, _, _, rfl, rfl, .inl ⟨by omega, by omega⟩, _, _, rfl, rfl, (by show (0 : Int) < 2147483587; decide), ?_⟩
    have k0 := Int.emod_nonneg (n * (n / 1013 + 69623 + (z + 1))) (show (2147483587 : Int) ≠ 0 by decide)
    have k1 := Int.emod_lt_of_pos (n * (n / 1013 + 69623 + (z + 1))) (show (0 : Int) < 2147483587 by decide)
    generalize (n * (n / 1013 + 69623 + (z + 1))) % 2147483587 = k at k0 k1 ⊢
    refine ⟨_, rfl, _, rfl, _, _, rfl, rfl, ⟨by decide, by decide⟩, _, _, rfl, rfl, _, _, rfl, rfl, .inl ⟨by omega, by omega⟩, _, _, rfl, rfl, (by show (0 : Int) < 2147483563; decide), _, _, rfl, rfl, ⟨by decide, by decide⟩, _, rfl, _, _, rfl, rfl, hm, ?_⟩
    exact q _ _ _ (Int.emod_nonneg _ (by omega)) (Int.emod_lt_of_pos _ hm) hx (by omega) (by omega)

/-- _law_one: SOME item of the list -/
def spOne (K : PySem.W.Frag) : Sp := fun vs H Q _ => ∃ (a l : Addr) (x y z : Int) (xs : List V), vs = [.ref a, .ref l] ∧ H a = some (.lst [.int x, .int y, .int z]) ∧ 0 ≤ x ∧ 0 ≤ y ∧ y < 2147483629 ∧ 0 ≤ z ∧ z < 1000000 ∧ H l = some (.lst xs) ∧ a ≠ l ∧ 0 < xs.length ∧ xs.length < 1000 ∧
  ∀ (i : Nat) (v : V) (x' z' : Int), xs[i]? = some v → 0 ≤ x' → z ≤ z' → z' ≤ z + 1 → Q v (upd H a (.lst [.int x', .int y, .int z']))
theorem scOne : FnScope ["_law_well_here", "_law_some"] ["_law_well_here", "_law_some"] (defScope sOne) := ⟨rfl, rfl, rfl, by decide +kernel, rfl, by decide +kernel, by decide +kernel⟩
theorem ok_one {f g : Addr} {fd gd : FuncData} (F : Fun K "_law_one" "_law_one" sOne f fd) (T : Txt K mg) (G : FnOk P w K mg base CX0 1 g gd ["_law_well_here", "_law_many"] spDraw) (bG : Binds K gd ["_law_well_here", "_law_many"] []) (kG : PySem.W.keepIn K (.ref g) = true) (mG : mg "_law_draw" = some (.ref g)) :
    FnOk P w K mg base CX0 2 f fd ["_law_well_here", "_law_some"] (spOne K) := by
  refine F.ok scOne (fun vs H Q E h => ?_) (fun cdv A outer s H vs Q E hr h => ?_)
  · obtain ⟨a, l, x, y, z, xs, rfl, _⟩ := h
    rfl
  obtain ⟨a, l, x, y, z, xs, rfl, hL, hx, hy, hy2, hz, hz2, hl, hal, hn0, hn1, q⟩ := h
  refine ⟨_, pss_one (ps_ret (pe_ix ix_list (pv 1) (pe_call G hr rfl mG kG bG .nil pass0 (pa_cons (pv 0) (pa_cons (pe_callB call_len_seq (by rfl) T.len PySem.boot_len (pa_cons (pv 1) pa_nil)) pa_nil))) (fun _ _ => rfl))), ?_⟩
  refine ⟨_, rfl, _, rfl, _, rfl, l, _, rfl, .inl (SqL.of hl), a, x, y, z, _, rfl, hL, hx, hy, hy2, hz, hz2, by omega, by omega, fun r x' z' r0 r1 x0 z0 z1 => ?_⟩
  have hr' : r.toNat < xs.length := by omega
  have er : r = ((r.toNat : Nat) : Int) := by omega
  have g : atI xs ((r.toNat : Nat) : Int) = some xs[r.toNat] := atI_nat (List.getElem?_eq_getElem hr')
  rw [← er] at g
  exact ⟨l, _, _, _, rfl, rfl, SqL.of (by rw [upd_ne hal.symm]; exact hl), g, q r.toNat _ _ _ (List.getElem?_eq_getElem hr') x0 z0 z1⟩
end
end TA

set_option Elab.async false
set_option maxRecDepth 100000
set_option maxHeartbeats 4000000
namespace TA
open PySem L2 PyProof.Rows
set_option linter.unusedVariables false
/-! what a hand knows, on the heap: ints, None, tuples of two -/
inductive Kn (H : Hp) : V → PyData → Prop
  | int (i : Int) : Kn H (.int i) (.int i)
  | non : Kn H .non .none
  | tup {a : Addr} {x y : V} {d e : PyData} : H a = some (.tup [x, y]) → Kn H x d → Kn H y e → Kn H (.ref a) (.tuple [d, e])
/-- all tuples stand as they stood -/
def Tups (H H' : Hp) : Prop := ∀ a xs, H a = some (.tup xs) → H' a = some (.tup xs)
theorem Kn.mono {H H' : Hp} (s : Tups H H') : ∀ {v d}, Kn H v d → Kn H' v d
  | _, _, .int i => .int i
  | _, _, .non => .non
  | _, _, .tup h a b => .tup (s _ _ h) (a.mono s) (b.mono s)
theorem Kn.dp {K : PySem.W.Frag} {H : Hp} : ∀ {v d}, Kn H v d → Dp K H v d
  | _, _, .int i => .int i
  | _, _, .non => .non
  | _, _, .tup h a b => .tup (SqT.of h) (.cons a.dp (.cons b.dp .nil))
theorem Tups.same {H H' : Hp} (s : Same H H') : Tups H H' := fun a xs h => s _ _ h
theorem Tups.updL {H : Hp} {p : Addr} {xs : List V} {o : HO} (h : H p = some (.lst xs)) : Tups H (upd H p o) := fun a ys e => by
  rw [upd_ne (ne_of e h (fun q => by cases q))]
  exact e
theorem Tups.updD {H : Hp} {p : Addr} {kvs : List (List Key × V)} {o : HO} (h : H p = some (.dT kvs)) : Tups H (upd H p o) := fun a ys e => by
  rw [upd_ne (ne_of e h (fun q => by cases q))]
  exact e
theorem Tups.trans {H H1 H2 : Hp} (a : Tups H H1) (b : Tups H1 H2) : Tups H H2 := fun x xs h => b _ _ (a _ _ h)
inductive KnAll (H : Hp) : List V → List PyData → Prop
  | nil : KnAll H [] []
  | cons {v vs d ds} : Kn H v d → KnAll H vs ds → KnAll H (v :: vs) (d :: ds)
theorem KnAll.mono {H H' : Hp} (s : Tups H H') : ∀ {vs ds}, KnAll H vs ds → KnAll H' vs ds
  | _, _, .nil => .nil
  | _, _, .cons a b => .cons (a.mono s) (b.mono s)
theorem KnAll.len {H : Hp} : ∀ {vs ds}, KnAll H vs ds → vs.length = ds.length
  | _, _, .nil => rfl
  | _, _, .cons _ b => congrArg (· + 1) b.len
theorem KnAll.snoc {H : Hp} {v d} (k : Kn H v d) : ∀ {vs ds}, KnAll H vs ds → KnAll H (vs ++ [v]) (ds ++ [d])
  | _, _, .nil => .cons k .nil
  | _, _, .cons a b => .cons a (b.snoc k)
theorem KnAll.getD {H : Hp} : ∀ {vs ds} (t : Nat), KnAll H vs ds → Kn H (vs.getD t .non) (ds.getD t .none)
  | _, _, _, .nil => by simp; exact .non
  | _, _, 0, .cons a b => by simpa using a
  | _, _, t + 1, .cons a b => by simpa using b.getD t

/-! the mirror -/
def upf {α : Type} (f : Nat → α) (h : Nat) (x : α) : Nat → α := fun i => if i = h then x else f i
theorem upf_same {α : Type} {f : Nat → α} {h : Nat} {x : α} : upf f h x h = x := by unfold upf; rw [if_pos rfl]
theorem upf_ne {α : Type} {f : Nat → α} {h i : Nat} {x : α} (e : i ≠ h) : upf f h x i = f i := by unfold upf; rw [if_neg e]
theorem two_get {α : Type} (f : Nat → α) {h : Nat} (hh : h < 2) : [f 0, f 1][h]? = some (f h) := by
  rcases h with _ | _ | h
  · rfl
  · rfl
  · omega
theorem two_set {α : Type} (f : Nat → α) {h : Nat} (hh : h < 2) (x : α) : [f 0, f 1].set h x = [upf f h x 0, upf f h x 1] := by
  rcases h with _ | _ | h
  · rfl
  · rfl
  · omega
structure M where
  k : Nat → PyData
  c : Nat → List PyData
  l : Nat → Nat
def M.step (m : M) (h : Nat) : M :=
  if m.l h < (m.c h).length then { k := upf m.k h (.tuple [m.k h, (m.c (1 - h)).getD (m.l h) .none]), c := m.c, l := upf m.l h (m.l h + 1) }
  else { k := m.k, c := upf m.c h (m.c h ++ [m.k h]), l := m.l }
def M.run (m : M) (hs : List Nat) : M := hs.foldl M.step m
def M.done (m : M) (h : Nat) : Nat := m.l h + (m.c h).length
def M0 (a b : Int) : M := { k := fun h => if h = 0 then .int a else .int b, c := fun _ => [], l := fun _ => 0 }
def M.wf (m : M) : Prop := ∀ h < 2, (m.c h).length = m.l h ∨ (m.c h).length = m.l h + 1
theorem M.wf0 (a b : Int) : (M0 a b).wf := fun h _ => .inl rfl
theorem M.wf_step {m : M} (w : m.wf) {h : Nat} (hh : h < 2) : (m.step h).wf := fun i hi => by
  unfold M.step
  have wi := w i hi
  have wh := w h hh
  by_cases c : m.l h < (m.c h).length
  · rw [if_pos c]
    show (m.c i).length = upf m.l h (m.l h + 1) i ∨ (m.c i).length = upf m.l h (m.l h + 1) i + 1
    by_cases e : i = h
    · subst e; rw [upf_same]; omega
    · rw [upf_ne e]; exact wi
  · rw [if_neg c]
    show (upf m.c h (m.c h ++ [m.k h]) i).length = m.l i ∨ (upf m.c h (m.c h ++ [m.k h]) i).length = m.l i + 1
    by_cases e : i = h
    · subst e; rw [upf_same, List.length_append]; show _ + 1 = _ ∨ _ + 1 = _; omega
    · rw [upf_ne e]; exact wi
theorem M.done_step (m : M) (h i : Nat) : (m.step h).done i = m.done i + (if i = h then 1 else 0) := by
  unfold M.step M.done
  by_cases c : m.l h < (m.c h).length
  · rw [if_pos c]
    show upf m.l h (m.l h + 1) i + (m.c i).length = _
    by_cases e : i = h
    · subst e; rw [upf_same, if_pos rfl]; omega
    · rw [upf_ne e, if_neg e]; rfl
  · rw [if_neg c]
    show m.l i + (upf m.c h (m.c h ++ [m.k h]) i).length = _
    by_cases e : i = h
    · subst e; rw [upf_same, if_pos rfl, List.length_append]; show _ + (_ + 1) = _; omega
    · rw [upf_ne e, if_neg e]; rfl
theorem M.run_snoc (m : M) (hs : List Nat) (h : Nat) : m.run (hs ++ [h]) = (m.run hs).step h := by
  unfold M.run
  rw [List.foldl_append]
  rfl
theorem M.done_run (m : M) (i : Nat) : ∀ hs : List Nat, (m.run hs).done i = m.done i + hs.count i := by
  intro hs
  induction hs generalizing m with
  | nil => rfl
  | cons h r ih =>
    show ((m.step h).run r).done i = _
    rw [ih, M.done_step, List.count_cons]
    by_cases e : i = h
    · subst e; simp; omega
    · have e2 : ¬ h = i := fun q => e q.symm
      simp [e, e2]
theorem M.wf_run {m : M} (w : m.wf) : ∀ {hs : List Nat}, (∀ h ∈ hs, h < 2) → (m.run hs).wf := by
  intro hs
  induction hs generalizing m with
  | nil => intro _; exact w
  | cons h r ih => intro q; exact ih (M.wf_step w (q h List.mem_cons_self)) (fun x hx => q x (List.mem_cons_of_mem _ hx))
/-- data as they may be compared -/
def Ok (n : Nat) (d : PyData) : Prop := d.canLay0 = true ∧ d.depth ≤ n
theorem Ok.up {n m : Nat} {d : PyData} (h : Ok n d) (e : n ≤ m) : Ok m d := ⟨h.1, Nat.le_trans h.2 e⟩
theorem Ok.pair {n : Nat} {d e : PyData} (h : Ok n d) (g : Ok n e) : Ok (n + 1) (.tuple [d, e]) := by
  refine ⟨?_, ?_⟩
  · simp [PyData.canLay0, PyData.canLayAll0, h.1, g.1]
  · have h2 := h.2
    have g2 := g.2
    simp only [PyData.depth, PyData.depthAll]
    omega
theorem Ok.lst {n : Nat} {d e : PyData} (h : Ok n d) (g : Ok n e) : Ok (n + 1) (.list [d, e]) := by
  refine ⟨?_, ?_⟩
  · simp [PyData.canLay0, PyData.canLayAll0, h.1, g.1]
  · have h2 := h.2
    have g2 := g.2
    simp only [PyData.depth, PyData.depthAll]
    omega
theorem Ok.shaped {d : PyData} (h : Ok 64 d) : SeqAt.shaped d = true := by
  unfold SeqAt.shaped
  rw [h.1, decide_eq_true h.2]
  rfl
end TA

set_option Elab.async false
set_option maxRecDepth 100000
set_option maxHeartbeats 4000000
namespace TA
open PySem L2 PyProof.Rows
set_option linter.unusedVariables false
def M.ok (n : Nat) (m : M) : Prop := ∀ h < 2, Ok n (m.k h) ∧ ∀ d ∈ m.c h, Ok n d
theorem ok_int {n : Nat} (i : Int) (h : 0 < n) : Ok n (.int i) := ⟨rfl, by show PyData.depth (.int i) ≤ n; simp only [PyData.depth]; omega⟩
theorem ok_none {n : Nat} (h : 0 < n) : Ok n .none := ⟨rfl, by show PyData.depth .none ≤ n; simp only [PyData.depth]; omega⟩
theorem M.ok0 (a b : Int) : (M0 a b).ok 1 := fun h _ => ⟨by
  show Ok 1 (if h = 0 then .int a else .int b)
  split
  · exact ok_int a (by decide)
  · exact ok_int b (by decide), fun d hd => by cases hd⟩
theorem M.ok_step {n : Nat} {m : M} (o : m.ok n) (h0 : 0 < n) {h : Nat} (hh : h < 2) : (m.step h).ok (n + 1) := fun i hi => by
  unfold M.step
  by_cases c : m.l h < (m.c h).length
  · rw [if_pos c]
    refine ⟨?_, fun d hd => ((o i hi).2 d hd).up (by omega)⟩
    show Ok (n + 1) (upf m.k h _ i)
    by_cases e : i = h
    · subst e
      rw [upf_same]
      refine Ok.pair (o i hi).1 ?_
      cases g : (m.c (1 - i))[m.l i]? with
      | none => rw [List.getD_eq_getElem?_getD, g]; exact ok_none h0
      | some d => rw [List.getD_eq_getElem?_getD, g]; exact (o (1 - i) (by omega)).2 d (List.mem_of_getElem? g)
    · rw [upf_ne e]; exact (o i hi).1.up (by omega)
  · rw [if_neg c]
    refine ⟨(o i hi).1.up (by omega), fun d hd => ?_⟩
    have hd' : d ∈ upf m.c h (m.c h ++ [m.k h]) i := hd
    by_cases e : i = h
    · subst e
      rw [upf_same] at hd'
      rcases List.mem_append.mp hd' with q | q
      · exact ((o i hi).2 d q).up (by omega)
      · have : d = m.k i := by simpa using q
        rw [this]
        exact (o i hi).1.up (by omega)
    · rw [upf_ne e] at hd'; exact ((o i hi).2 d hd').up (by omega)
theorem M.ok_run {hs : List Nat} : ∀ {n : Nat} {m : M}, m.ok n → 0 < n → (∀ h ∈ hs, h < 2) → (m.run hs).ok (n + hs.length) := by
  induction hs with
  | nil => intro n m o _ _; exact o
  | cons h r ih =>
    intro n m o h0 q
    have := ih (M.ok_step o h0 (q h List.mem_cons_self)) (by omega) (fun x hx => q x (List.mem_cons_of_mem _ hx))
    rw [show n + 1 + r.length = n + (h :: r).length by rw [List.length_cons]; omega] at this
    exact this
def M.res (m : M) (deep : Nat) (h : Nat) : PyData := if m.done h = 2 * deep then m.k h else .none
theorem M.res_ok {n : Nat} {m : M} (o : m.ok n) (h0 : 0 < n) (deep : Nat) {h : Nat} (hh : h < 2) : Ok n (m.res deep h) := by
  unfold M.res
  split
  · exact (o h hh).1
  · exact ok_none h0
theorem M.stopped {m : M} (w : m.wf) {deep h : Nat} (hh : h < 2) (hd : m.done h ≤ 2 * deep) : m.l h = deep ↔ m.done h = 2 * deep := by
  have wh := w h hh
  unfold M.done at hd ⊢
  omega
/-- what is told: two places -/
def told (a b : Int) (hs : List Nat) (deep : Nat) : PyData := .list [((M0 a b).run hs).res deep 0, ((M0 a b).run hs).res deep 1]
theorem told_shaped (a b : Int) {hs : List Nat} (q : ∀ h ∈ hs, h < 2) (hz : hs.length ≤ 40) (deep : Nat) : SeqAt.shaped (told a b hs deep) = true := by
  have o := M.ok_run (M.ok0 a b) (by decide) q
  exact ((M.res_ok o (by omega) deep (h := 0) (by decide)).lst (M.res_ok o (by omega) deep (h := 1) (by decide))).up (by omega) |>.shaped
theorem eqv_self {d : PyData} (h : SeqAt.shaped d = true) : PyData.eqv d d = true := SeqAt.eqv_refl d (SeqAt.canLay_of_shaped h)

/-! a walk of n turns, whatever is walked: the word Pv is kept from turn to turn -/
theorem turns {J : It} (n : Nat) {H0 : Hp} {Qd : Hp → Prop} {B : (Hp → Prop) → V → Hp → Prop} (Pv : Nat → Hp → Prop) (start : Pv 0 H0) (last : ∀ H, Pv n H → J.stop n H ∧ Qd H)
    (turn : ∀ i H, i < n → Pv i H → J.go i H ∧ ∀ x H', J.yld i H x H' → B (Pv (i + 1)) x H') :
    ∃ W : Nat → Nat → Hp → Prop, (∃ m, W 0 m H0) ∧ ∀ i m H, W i m H →
      (J.stop i H ∧ Qd H) ∨ (J.go i H ∧ ∃ Nx : Hp → Prop, (∀ H', Nx H' → ∃ m', m' < m ∧ W (i + 1) m' H') ∧ ∀ x H', J.yld i H x H' → B Nx x H') := by
  refine ⟨fun i m H => i + m = n ∧ Pv i H, ⟨n, by omega, start⟩, fun i m H h => ?_⟩
  obtain ⟨hm, word⟩ := h
  cases m with
  | zero =>
    have hin : i = n := by omega
    rw [hin] at word ⊢
    exact Or.inl (last H word)
  | succ m =>
    obtain ⟨go, step⟩ := turn i H (by omega) word
    exact Or.inr ⟨go, Pv (i + 1), fun H' w' => ⟨m, by omega, by omega, w'⟩, step⟩
theorem list_turns {K : PySem.W.Frag} {a : Addr} {xs : List V} {H0 : Hp} {Qd : Hp → Prop} {B : (Hp → Prop) → V → Hp → Prop} (Pv : Nat → Hp → Prop) (start : Pv 0 H0) (still : ∀ i H, i ≤ xs.length → Pv i H → SqL K H a xs)
    (turn : ∀ i x H, xs[i]? = some x → Pv i H → B (Pv (i + 1)) x H) (last : ∀ H, Pv xs.length H → Qd H) :
    ∃ W : Nat → Nat → Hp → Prop, (∃ m, W 0 m H0) ∧ ∀ i m H, W i m H →
      ((Itl K a).stop i H ∧ Qd H) ∨ ((Itl K a).go i H ∧ ∃ Nx : Hp → Prop, (∀ H', Nx H' → ∃ m', m' < m ∧ W (i + 1) m' H') ∧ ∀ x H', (Itl K a).yld i H x H' → B Nx x H') :=
  turns xs.length Pv start (fun H w => ⟨⟨xs, still _ H (Nat.le_refl _) w, Nat.le_refl _⟩, last H w⟩) fun i H hi w =>
    have there := still i H (Nat.le_of_lt hi) w
    ⟨⟨xs, xs[i], there, List.getElem?_eq_getElem hi⟩, fun x H' ⟨same, given⟩ => by rw [same]; exact turn i x H (given xs there) w⟩
theorem tup_turns {K : PySem.W.Frag} {a : Addr} {xs : List V} {H0 : Hp} {Qd : Hp → Prop} {B : (Hp → Prop) → V → Hp → Prop} (Pv : Nat → Hp → Prop) (start : Pv 0 H0) (still : ∀ i H, i ≤ xs.length → Pv i H → SqT K H a xs)
    (turn : ∀ i x H, xs[i]? = some x → Pv i H → B (Pv (i + 1)) x H) (last : ∀ H, Pv xs.length H → Qd H) :
    ∃ W : Nat → Nat → Hp → Prop, (∃ m, W 0 m H0) ∧ ∀ i m H, W i m H →
      ((Itt K a).stop i H ∧ Qd H) ∨ ((Itt K a).go i H ∧ ∃ Nx : Hp → Prop, (∀ H', Nx H' → ∃ m', m' < m ∧ W (i + 1) m' H') ∧ ∀ x H', (Itt K a).yld i H x H' → B Nx x H') :=
  turns xs.length Pv start (fun H w => ⟨⟨xs, still _ H (Nat.le_refl _) w, Nat.le_refl _⟩, last H w⟩) fun i H hi w =>
    have there := still i H (Nat.le_of_lt hi) w
    ⟨⟨xs, xs[i], there, List.getElem?_eq_getElem hi⟩, fun x H' ⟨same, given⟩ => by rw [same]; exact turn i x H (given xs there) w⟩
theorem range_turns {lo : Int} {n : Nat} {H0 : Hp} {Qd : Hp → Prop} {B : (Hp → Prop) → V → Hp → Prop} (Pv : Nat → Hp → Prop) (start : Pv 0 H0)
    (turn : ∀ i H, i < n → Pv i H → B (Pv (i + 1)) (.int (lo + i)) H) (last : ∀ H, Pv n H → Qd H) :
    ∃ W : Nat → Nat → Hp → Prop, (∃ m, W 0 m H0) ∧ ∀ i m H, W i m H →
      ((Itr lo n).stop i H ∧ Qd H) ∨ ((Itr lo n).go i H ∧ ∃ Nx : Hp → Prop, (∀ H', Nx H' → ∃ m', m' < m ∧ W (i + 1) m' H') ∧ ∀ x H', (Itr lo n).yld i H x H' → B Nx x H') :=
  turns n Pv start (fun H w => ⟨Nat.le_refl _, last H w⟩) fun i H hi w => ⟨hi, fun x H' ⟨same, given⟩ => by rw [same, given]; exact turn i H hi w⟩
theorem small13 {n : Nat} (h : n ≤ 100000) : n ≤ sizeLine := Nat.le_trans h (by decide)

/-- xs[i] as an augmented assignment reads it, 0 ≤ i -/
theorem get_list {X : Cx} : PGet X (fun o i H Q => ∃ (p : Addr) (xs : List V) (k : Nat) (v : V), o = .ref p ∧ i = .int (k : Int) ∧ SqL X.K H p xs ∧ xs[k]? = some v ∧ Q v H) := by
  intro pins s σ H o i ov iv Q I ro ri h
  obtain ⟨p, xs, k, v, rfl, rfl, hq, he, q⟩ := h
  cases ro
  obtain ⟨t, rfl⟩ := ri
  obtain ⟨its, r, pl, hz⟩ := I.list hq
  obtain ⟨w, ew, rw'⟩ := r.get he
  have hl := r.length
  have hn := line63
  have hk : k < xs.length := (List.getElem?_eq_some_iff.mp he).1
  refine getItem_listL (l := its) pl.isList (by omega) ?_ (by simpa using ew) ⟨v, H, I, rw', q⟩
  omega
end TA

set_option Elab.async false
set_option maxRecDepth 100000
set_option maxHeartbeats 4000000
namespace TA
open PySem L2 PyProof.Rows
set_option linter.unusedVariables false
structure Txt2 (K : PySem.W.Frag) (mg : Str → Option Value) : Prop where
  two : ∃ t, mg "STEPS" = some (.int 2 t)
  five : ∃ t, mg "MOST_ROUNDS" = some (.int 5 t)
  hands : ∃ hA, mg "HANDS" = some (.ref hA) ∧ ∀ H, SqT K H hA [.int 0, .int 1]
structure Def (P : Program) (w : World) (K : PySem.W.Frag) (mg : Str → Option Value) (base : Heap) (x : Str) (ps : List Str) (k : Nat) (sp : Sp) (f : Addr) (fd : FuncData) : Prop where
  G : FnOk P w K mg base CX0 k f fd ps sp
  b : Binds K fd ps []
  k : PySem.W.keepIn K (.ref f) = true
  m : mg x = some (.ref f)
def spHand : Sp := fun vs H Q _ => ∃ a : Int, vs = [.int a] ∧ Q (.bl (decide (0 ≤ a ∧ a ≤ 1))) H
def spInputs : Sp := fun vs H Q _ => ∃ (t : Addr) (a b : Int), vs = [.ref t] ∧ H t = some (.tup [.int a, .int b]) ∧ 0 ≤ a ∧ 0 ≤ b ∧ ∀ H', Same H H' → Q (.bl true) H'
/-- the list of hands at p -/
def hl (hs : List Nat) : List V := hs.map fun h : Nat => V.int (h : Int)
def spWeaving (K : PySem.W.Frag) : Sp := fun vs H Q _ => ∃ (p : Addr) (hs : List Nat) (d : Nat), vs = [.ref p, .int (d : Int)] ∧ SqL K H p (hl hs) ∧ (∀ h ∈ hs, h < 2) ∧ (∀ h < 2, hs.count h ≤ 2 * d) ∧ hs.length ≤ 1000 ∧ ∀ H', Same H H' → Q (.bl true) H'
def spPut (K : PySem.W.Frag) : Sp := fun vs H Q _ => ∃ (c : Addr) (ws : List V) (t : Nat), vs = [.ref c, .int (t : Int)] ∧ SqL K H c ws ∧ Q (ws.getD t .non) H
theorem hl_ints (hs : List Nat) : hl hs = (hs.map fun h : Nat => (h : Int)).map V.int := by
  unfold hl
  rw [List.map_map]
  rfl
theorem hl_count (hs : List Nat) (h : Nat) : (hs.map fun h : Nat => (h : Int)).count (h : Int) = hs.count h := by
  induction hs with
  | nil => rfl
  | cons x r ih =>
    rw [List.map_cons, List.count_cons, List.count_cons, ih]
    by_cases e : x = h
    · subst e; simp
    · have : ¬ ((x : Int) = (h : Int)) := by omega
      simp [e, this]
theorem all_rep (n : Nat) : (List.replicate n true).all id = true := by
  induction n with
  | zero => rfl
  | succ n ih => rw [List.replicate_succ, List.all_cons, ih]; rfl
theorem rep_snoc (n : Nat) : ((List.replicate n true).map V.bl) ++ [V.bl true] = (List.replicate (n + 1) true).map V.bl := by
  rw [List.replicate_succ', List.map_append]
  rfl
section
variable {P : Program} {w : World} {K : PySem.W.Frag} {mg : Str → Option Value} {base : Heap}
theorem scHand : FnScope ["thing"] ["thing"] (defScope sHand) := ⟨rfl, rfl, rfl, by decide +kernel, rfl, by decide +kernel, by decide +kernel⟩
theorem ok_hand {f g : Addr} {fd gd : FuncData} (F : Fun K "is_hand" "is_hand" sHand f fd) (W : Def P w K mg base "is_whole_within" ["thing", "least", "most"] 2 spWithin g gd) : FnOk P w K mg base CX0 3 f fd ["thing"] spHand := by
  refine F.ok scHand (fun vs H Q E h => ?_) (fun cdv A outer s H vs Q E hr h => ?_)
  · obtain ⟨a, rfl, _⟩ := h
    rfl
  obtain ⟨a, rfl, q⟩ := h
  refine ⟨_, pss_one (ps_ret (pe_call W.G hr rfl W.m W.k W.b .nil pass0 (pa_cons (pv 0) (pa_cons pe_int (pa_cons pe_int pa_nil))))), ?_⟩
  exact ⟨_, rfl, a, 0, 1, rfl, q⟩
theorem scPut : FnScope ["cells", "at"] ["cells", "at"] (defScope sPut) := ⟨rfl, rfl, rfl, by decide +kernel, rfl, by decide +kernel, by decide +kernel⟩
theorem ok_put {f : Addr} {fd : FuncData} (F : Fun K "put_in" "put_in" sPut f fd) (T : Txt K mg) : FnOk P w K mg base CX0 1 f fd ["cells", "at"] (spPut K) := by
  refine F.ok scPut (fun vs H Q E h => ?_) (fun cdv A outer s H vs Q E hr h => ?_)
  · obtain ⟨c, ws, t, rfl, _⟩ := h
    rfl
  obtain ⟨c, ws, t, rfl, hS, q⟩ := h
  refine ⟨_, pss_one (ps_ret (pe_ifExp (pt_cmpR op_lt (pv 1) (pe_callB call_len_seq (by rfl) T.len PySem.boot_len (pa_cons (pv 0) pa_nil)) (nomark _)) (pe_ix ix_list (pv 0) (pv 1) (fun _ _ => rfl)) pe_non)), ?_⟩
  refine ⟨_, rfl, _, rfl, c, _, rfl, .inl hS, _, _, rfl, rfl, _, rfl, ?_⟩
  refine ite2 (fun c1 => ?_) (fun c1 => ?_)
  · have c2 : ((t : Nat) : Int) < ((ws.length : Nat) : Int) := of_decide_eq_true c1
    have ht : t < ws.length := by omega
    have e : ws.getD t .non = ws[t] := by rw [List.getD_eq_getElem?_getD, List.getElem?_eq_getElem ht]; rfl
    rw [e] at q
    exact ⟨_, rfl, _, rfl, c, _, _, _, rfl, rfl, hS, atI_nat (List.getElem?_eq_getElem ht), q⟩
  · have c2 : ¬ ((t : Nat) : Int) < ((ws.length : Nat) : Int) := of_decide_eq_false (Bool.eq_false_iff.mpr c1)
    have e : ws.getD t .non = .non := by rw [List.getD_eq_getElem?_getD, List.getElem?_eq_none (by omega)]; rfl
    rw [e] at q
    exact q
theorem scInputs : FnScope ["thing", "a"] ["thing"] (defScope sInputs) := ⟨rfl, rfl, rfl, by decide +kernel, rfl, by decide +kernel, by decide +kernel⟩
theorem ok_inputs {f g : Addr} {fd gd : FuncData} (F : Fun K "is_inputs" "is_inputs" sInputs f fd) (T : Txt K mg) (W : Def P w K mg base "is_whole" ["thing"] 1 spWhole g gd) : FnOk P w K mg base CX0 2 f fd ["thing"] spInputs := by
  refine F.ok scInputs (fun vs H Q E h => ?_) (fun cdv A outer s H vs Q E hr h => ?_)
  · obtain ⟨t, a, b, rfl, _⟩ := h
    rfl
  obtain ⟨t, a, b, rfl, ht, ha, hb, q⟩ := h
  have nd := scInputs.nd
  refine ⟨_, pss_one (ps_ret (pe_and (pe_callB call_isi (by rfl) T.isi boot_isinstance (pa_cons (pv 0) (pa_cons (pe_bltn (v := .ty "tuple") (by rfl) T.tuple boot_tuple rfl) pa_nil)))
    (pe_and (pe_cmpR op_eq (pe_callB call_len_seq (by rfl) T.len PySem.boot_len (pa_cons (pv 0) pa_nil)) pe_int (nomark _))
    (pe_one (pe_callB (cr_all rfl) (by rfl) T.all (by decide +kernel) (pa_cons
      (pe_lc (own := [("a", 1)]) (g := gName 1) (tt := tYes) (te := tAndV (tCall spWhole [] E0 (tCons (tVar 1) tNil)) (tOp (rI0 fun i j => .bl (decide (i ≥ j))) (tVar 1) (tC (.int 0)))) rfl nd (pi_tup (pv 0)) (blkOk_by (N := ["thing", "a"]) (sc := defScope sInputs) (by decide +kernel)) (fun _ _ _ _ _ => pg_name (i := 1) nd rfl (Or.inl rfl)) (fun _ _ _ _ _ => pts_nil)
        (fun _ _ _ _ _ => (by refine pe_and ?_ (pe_one ?_); (exact pe_call W.G hr rfl W.m W.k W.b .nil pass0 (pa_cons (pv 1) pa_nil)); (exact pe_cmpR op_ge (pv 1) pe_int (nomark _))))) pa_nil)))))), ?_⟩
  refine ⟨_, rfl, .ref t, .ty "tuple", _, _, true, rfl, .ty "tuple", .base (.tup ht), kit_ty (by decide +kernel), true, rfl, iteT ?_⟩
  refine ⟨_, rfl, t, _, rfl, .inr (SqT.of ht), rfl, true, rfl, iteT ?_⟩
  refine ⟨_, rfl, t, rfl, ⟨_, SqT.of ht⟩, fun D hD => ?_⟩
  have s0 := same_new hD (.lst [])
  refine tup_turns (xs := [V.int a, V.int b]) (fun i H' => Same H H' ∧ H' D = some (.lst ((List.replicate i true).map V.bl))) ⟨s0, upd_same⟩ (fun i H' _ h => SqT.of (h.1 _ _ ht)) ?_ ?_
  · rintro i x H' hx ⟨s1, h1⟩
    obtain ⟨z, rfl, hz⟩ : ∃ z : Int, x = .int z ∧ 0 ≤ z := by
      rcases i with _ | _ | i
      · exact ⟨a, by simpa using hx.symm, ha⟩
      · exact ⟨b, by simpa using hx.symm, hb⟩
      · simp at hx
    have hi : i < 2 := (List.getElem?_eq_some_iff.mp hx).1
    refine ⟨rfl, _, rfl, z, rfl, true, rfl, iteT ?_⟩
    refine ⟨_, rfl, _, _, rfl, rfl, _, h1, (by rw [List.length_map, List.length_replicate]; exact Nat.lt_of_lt_of_le hi (by decide)), fun b' o e => ?_, ?_⟩
    · rw [upd_ne (ne_of_none e hD)]
      exact s1 _ _ e
    · rw [upd_same]
      show some (HO.lst (_ ++ [V.bl (decide (z ≥ 0))])) = _
      rw [decide_eq_true (show z ≥ 0 from hz), rep_snoc]
  · rintro H' ⟨s1, h1⟩
    refine ⟨D, _, rfl, SqL.of h1, ?_⟩
    rw [all_rep]
    exact q _ s1
theorem scWeaving : FnScope ["thing", "rounds", "hand"] ["thing", "rounds"] (defScope sWeaving) := ⟨rfl, rfl, rfl, by decide +kernel, rfl, by decide +kernel, by decide +kernel⟩
theorem ok_weaving {f g : Addr} {fd gd : FuncData} (F : Fun K "is_weaving" "is_weaving" sWeaving f fd) (T : Txt K mg) (U : Txt2 K mg) (W : Def P w K mg base "is_hand" ["thing"] 3 spHand g gd) : FnOk P w K mg base CX0 4 f fd ["thing", "rounds"] (spWeaving K) := by
  refine F.ok scWeaving (fun vs H Q E h => ?_) (fun cdv A outer s H vs Q E hr h => ?_)
  · obtain ⟨p, hs, d, rfl, _⟩ := h
    rfl
  obtain ⟨p, hs, d, rfl, hS, hh, hc, hz, q⟩ := h
  obtain ⟨t2, m2⟩ := U.two
  obtain ⟨hA, mH, hH⟩ := U.hands
  have nd := scWeaving.nd
  have ty : TyX K H (.ref p) (.type "list") := by
    rcases hS with h | ⟨o, its, n, h1, h2, _⟩
    · rcases h with h | ⟨o, h⟩
      · exact .base (.lst h)
      · exact .base (.frz h)
    · exact .kList h1 h2
  refine ⟨_, pss_one (ps_ret (pe_and (pe_callB call_isi (by rfl) T.isi boot_isinstance (pa_cons (pv 0) (pa_cons (pe_bltn (v := .ty "list") (by rfl) T.list boot_list rfl) pa_nil)))
    (pe_and (pe_callB (cr_all rfl) (by rfl) T.all (by decide +kernel) (pa_cons
      (pe_lc (own := [("hand", 2)]) (g := gName 2) (tt := tYes) (te := tCall spHand [] E0 (tCons (tVar 2) tNil)) rfl nd (pi_list (pv 0)) (blkOk_by (N := ["thing", "rounds", "hand"]) (sc := defScope sWeaving) (by decide +kernel)) (fun _ _ _ _ _ => pg_name (i := 2) nd rfl (Or.inl rfl)) (fun _ _ _ _ _ => pts_nil)
        (fun _ _ _ _ _ => (by exact pe_call W.G hr rfl W.m W.k W.b .nil pass0 (pa_cons (pv 2) pa_nil)))) pa_nil))
    (pe_one (pe_callB (cr_all rfl) (by rfl) T.all (by decide +kernel) (pa_cons
      (pe_lc (own := [("hand", 2)]) (g := gName 2) (tt := tYes) (te := tOp (rI0 fun i j => .bl (decide (i ≤ j))) (tBM K "list" (rCntI K) (tVar 0) (tCons (tVar 2) tNil)) (tOp (rI CMul fun i j => .int (i * j)) (tC (.int 2)) (tVar 1))) rfl nd (pi_tup (pe_glob (v := .ref hA) rfl mH rfl)) (blkOk_by (N := ["thing", "rounds", "hand"]) (sc := defScope sWeaving) (by decide +kernel)) (fun _ _ _ _ _ => pg_name (i := 2) nd rfl (Or.inl rfl)) (fun _ _ _ _ _ => pts_nil)
        (fun _ _ _ _ _ => (by refine pe_cmpR op_le ?_ (pe_op op_mul ?_ (pv 1)) (nomark _); (exact pe_bm PySem.F.plainAttrs_list PySem.F.slot_list_count PySem.F.type_list_count mt_lcount (pv 0) (pa_cons (pv 2) pa_nil)); (exact pe_glob (v := .int 2) rfl m2 ⟨_, rfl⟩)))) pa_nil)))))), ?_⟩
  refine ⟨_, rfl, .ref p, .ty "list", _, _, true, rfl, .ty "list", ty, kit_ty (by decide +kernel), true, rfl, iteT ?_⟩
  refine ⟨_, rfl, p, rfl, ⟨_, hS⟩, fun D hD => ?_⟩
  have lenH : (hl hs).length = hs.length := List.length_map _
  refine list_turns (xs := hl hs) (fun i H' => Same H H' ∧ H' D = some (.lst ((List.replicate i true).map V.bl))) ⟨same_new hD _, upd_same⟩ (fun i H' _ h => h.1.seq hS) ?_ ?_
  · rintro i x H' hx ⟨s1, h1⟩
    have hi : i < (hl hs).length := (List.getElem?_eq_some_iff.mp hx).1
    obtain ⟨z, rfl, hz2⟩ : ∃ z : Nat, x = .int (z : Int) ∧ z < 2 := by
      unfold hl at hx
      rw [List.getElem?_map] at hx
      obtain ⟨z, e1, e2⟩ := Option.map_eq_some_iff.mp hx
      exact ⟨z, e2.symm, hh z (List.mem_of_getElem? e1)⟩
    have e1 : decide ((0 : Int) ≤ (z : Int) ∧ (z : Int) ≤ 1) = true := decide_eq_true (by omega)
    refine ⟨rfl, _, rfl, (z : Int), rfl, _, h1, (by rw [List.length_map, List.length_replicate]; exact Nat.lt_of_lt_of_le hi (by rw [lenH]; exact Nat.le_trans hz (by decide))), fun b' o e => ?_, ?_⟩
    · rw [upd_ne (ne_of_none e hD)]
      exact s1 _ _ e
    · rw [upd_same, e1, rep_snoc]
  · rintro H1 ⟨s1, h1⟩
    refine ⟨D, _, rfl, SqL.of h1, ?_⟩
    rw [all_rep]
    refine ⟨true, rfl, iteT ?_⟩
    refine ⟨hA, rfl, ⟨_, hH _⟩, fun D2 hD2 => ?_⟩
    refine tup_turns (xs := [V.int 0, V.int 1]) (fun i H' => Same H1 H' ∧ H' D2 = some (.lst ((List.replicate i true).map V.bl))) ⟨same_new hD2 _, upd_same⟩ (fun i H' _ h => hH _) ?_ ?_
    · rintro i x H' hx ⟨s2, h2⟩
      have hi : i < 2 := (List.getElem?_eq_some_iff.mp hx).1
      obtain ⟨z, rfl, hz2⟩ : ∃ z : Nat, x = .int (z : Int) ∧ z < 2 := by
        rcases i with _ | _ | i
        · exact ⟨0, by simpa using hx.symm, by decide⟩
        · exact ⟨1, by simpa using hx.symm, by decide⟩
        · simp at hx
      have hS2 := s2.seq (s1.seq hS)
      have cz := hc z hz2
      rw [← hl_count, ] at cz
      refine ⟨rfl, _, rfl, ?_, _, rfl, p, hs.map fun h : Nat => (h : Int), (z : Int), rfl, rfl, by rw [← hl_ints]; exact hS2, _, rfl, _, _, rfl, rfl, .inl ⟨by decide, by decide⟩, _, _, rfl, rfl, _, h2, (by rw [List.length_map, List.length_replicate]; exact Nat.lt_of_lt_of_le hi (by decide)), fun b' o e => ?_, ?_⟩
      · exact .inl ⟨rfl, _, hS2⟩
      · rw [upd_ne (ne_of_none e hD2)]
        exact s2 _ _ e
      · rw [upd_same]
        show some (HO.lst (_ ++ [V.bl (decide ((((hs.map fun h : Nat => (h : Int)).count (z : Int) : Nat) : Int) ≤ 2 * (d : Int)))])) = _
        rw [decide_eq_true (by omega), rep_snoc]
    · rintro H2 ⟨s2, h2⟩
      refine ⟨D2, _, rfl, SqL.of h2, ?_⟩
      rw [all_rep]
      exact q _ (s1.trans s2)
end
end TA

set_option Elab.async false
set_option maxRecDepth 100000
set_option maxHeartbeats 4000000
namespace TA
open PySem L2 PyProof.Rows
set_option linter.unusedVariables false
theorem ixN_two {h : Nat} (hh : h < 2) : ixN 2 (h : Int) = some h := by
  rcases h with _ | _ | h
  · rfl
  · rfl
  · omega
theorem at_two {α : Type} (f : Nat → α) {h : Nat} (hh : h < 2) : atI [f 0, f 1] (h : Int) = some (f h) := atI_nat (two_get f hh)
theorem same_upd {H0 H : Hp} {p : Addr} {o : HO} (s : Same H0 H) (f : H0 p = none) : Same H0 (upd H p o) := fun b u e => by
  rw [upd_ne (ne_of_none e f)]
  exact s _ _ e
structure KS (H0 H : Hp) (kn ce lo : Addr) (cs : Nat → Addr) (m : M) : Prop where
  same : Same H0 H
  f1 : H0 kn = none
  f2 : H0 ce = none
  f3 : H0 lo = none
  f4 : ∀ h < 2, H0 (cs h) = none
  n1 : kn ≠ ce
  n2 : kn ≠ lo
  n3 : ∀ h < 2, kn ≠ cs h
  n4 : ce ≠ lo
  n5 : ∀ h < 2, ce ≠ cs h
  n6 : ∀ h < 2, lo ≠ cs h
  n7 : cs 0 ≠ cs 1
  hk : ∃ v : Nat → V, H kn = some (.lst [v 0, v 1]) ∧ ∀ h < 2, Kn H (v h) (m.k h)
  he : H ce = some (.lst [.ref (cs 0), .ref (cs 1)])
  ho : H lo = some (.lst [.int (m.l 0 : Nat), .int (m.l 1 : Nat)])
  hc : ∀ h < 2, ∃ ws, H (cs h) = some (.lst ws) ∧ KnAll H ws (m.c h)
theorem cs_ne {cs : Nat → Addr} (n : cs 0 ≠ cs 1) {i h : Nat} (hi : i < 2) (hh : h < 2) (e : i ≠ h) : cs i ≠ cs h := by
  rcases i with _ | _ | i
  · rcases h with _ | _ | h
    · exact absurd rfl e
    · exact n
    · omega
  · rcases h with _ | _ | h
    · exact n.symm
    · exact absurd rfl e
    · omega
  · omega
theorem KS.put {H0 H : Hp} {kn ce lo : Addr} {cs : Nat → Addr} {m : M} (S : KS H0 H kn ce lo cs m) {h : Nat} (hh : h < 2) (c : ¬ m.l h < (m.c h).length) {ws : List V} {v : V} (hw : H (cs h) = some (.lst ws)) (ha : KnAll H ws (m.c h)) (hv : Kn H v (m.k h)) :
    KS H0 (upd H (cs h) (.lst (ws ++ [v]))) kn ce lo cs (m.step h) := by
  have es : m.step h = { k := m.k, c := upf m.c h (m.c h ++ [m.k h]), l := m.l } := by unfold M.step; rw [if_neg c]
  rw [es]
  have tu : Tups H (upd H (cs h) (.lst (ws ++ [v]))) := Tups.updL hw
  obtain ⟨vs, hk, hkn⟩ := S.hk
  refine { S with same := same_upd S.same (S.f4 h hh), hk := ⟨vs, ?_, fun i hi => (hkn i hi).mono tu⟩, he := ?_, ho := ?_, hc := fun i hi => ?_ }
  · rw [upd_ne (S.n3 h hh)]; exact hk
  · rw [upd_ne (S.n5 h hh)]; exact S.he
  · rw [upd_ne (S.n6 h hh)]; exact S.ho
  · by_cases e : i = h
    · subst e
      refine ⟨_, upd_same, ?_⟩
      show KnAll _ _ (upf m.c i (m.c i ++ [m.k i]) i)
      rw [upf_same]
      exact (ha.mono tu).snoc (hv.mono tu)
    · obtain ⟨ws2, h1, h2⟩ := S.hc i hi
      refine ⟨ws2, by rw [upd_ne (cs_ne S.n7 hi hh e)]; exact h1, ?_⟩
      show KnAll _ _ (upf m.c h (m.c h ++ [m.k h]) i)
      rw [upf_ne e]
      exact h2.mono tu
theorem KS.look {H0 H : Hp} {kn ce lo : Addr} {cs : Nat → Addr} {m : M} (S : KS H0 H kn ce lo cs m) {h : Nat} (hh : h < 2) (c : m.l h < (m.c h).length) {v : Nat → V} {w : V} {q : Addr} (hk : H kn = some (.lst [v 0, v 1])) (hkn : ∀ h < 2, Kn H (v h) (m.k h)) (hw : Kn H w ((m.c (1 - h)).getD (m.l h) .none)) (hq : H q = none) :
    KS H0 (upd (upd (upd H q (.tup [v h, w])) kn (.lst [upf v h (.ref q) 0, upf v h (.ref q) 1])) lo (.lst [.int (upf m.l h (m.l h + 1) 0 : Nat), .int (upf m.l h (m.l h + 1) 1 : Nat)])) kn ce lo cs (m.step h) := by
  have es : m.step h = { k := upf m.k h (.tuple [m.k h, (m.c (1 - h)).getD (m.l h) .none]), c := m.c, l := upf m.l h (m.l h + 1) } := by unfold M.step; rw [if_pos c]
  rw [es]
  have qk : kn ≠ q := ne_of_none hk hq
  have qe : ce ≠ q := ne_of_none S.he hq
  have ql : lo ≠ q := ne_of_none S.ho hq
  have t1 : Tups H (upd H q (.tup [v h, w])) := Tups.same (same_new hq _)
  have t2 : Tups H (upd (upd H q (.tup [v h, w])) kn (.lst [upf v h (.ref q) 0, upf v h (.ref q) 1])) := t1.trans (Tups.updL (by rw [upd_ne qk]; exact hk))
  have t3 : Tups H (upd (upd (upd H q (.tup [v h, w])) kn (.lst [upf v h (.ref q) 0, upf v h (.ref q) 1])) lo (.lst [.int (upf m.l h (m.l h + 1) 0 : Nat), .int (upf m.l h (m.l h + 1) 1 : Nat)])) := t2.trans (Tups.updL (by rw [upd_ne S.n2.symm, upd_ne ql]; exact S.ho))
  have hq3 : (upd (upd (upd H q (.tup [v h, w])) kn (.lst [upf v h (.ref q) 0, upf v h (.ref q) 1])) lo (.lst [.int (upf m.l h (m.l h + 1) 0 : Nat), .int (upf m.l h (m.l h + 1) 1 : Nat)])) q = some (.tup [v h, w]) := by
    rw [upd_ne ql.symm, upd_ne qk.symm, upd_same]
  refine { S with same := same_upd (same_upd (S.same.trans (same_new hq _)) S.f1) S.f3, hk := ⟨upf v h (.ref q), ?_, fun i hi => ?_⟩, he := ?_, ho := upd_same, hc := fun i hi => ?_ }
  · rw [upd_ne S.n2, upd_same]
  · show Kn _ (upf v h (.ref q) i) (upf m.k h (.tuple [m.k h, (m.c (1 - h)).getD (m.l h) .none]) i)
    by_cases e : i = h
    · subst e
      rw [upf_same, upf_same]
      exact .tup hq3 ((hkn i hi).mono t3) (hw.mono t3)
    · rw [upf_ne e, upf_ne e]
      exact (hkn i hi).mono t3
  · rw [upd_ne S.n4, upd_ne S.n1.symm, upd_ne qe]; exact S.he
  · obtain ⟨ws2, h1, h2⟩ := S.hc i hi
    exact ⟨ws2, by rw [upd_ne (S.n6 i hi).symm, upd_ne (S.n3 i hi).symm, upd_ne (ne_of_none h1 hq)]; exact h1, h2.mono t3⟩
/-- the answer of known (and of _law_behind) -/
def spTold (vs0 : List V → Hp → Addr → List Nat → Nat → Int → Int → Prop) : Sp := fun vs H Q _ => ∃ (p : Addr) (hs : List Nat) (d : Nat) (a b : Int), vs0 vs H p hs d a b ∧ (∀ h ∈ hs, h < 2) ∧ (∀ h < 2, hs.count h ≤ 2 * d) ∧ hs.length ≤ 40 ∧ d ≤ 5 ∧ 0 ≤ a ∧ 0 ≤ b ∧
  ∀ (o : Addr) (v : Nat → V) (H' : Hp), Same H H' → H o = none → H' o = some (.lst [v 0, v 1]) → (∀ h < 2, Kn H' (v h) (((M0 a b).run hs).res d h)) → Q (.ref o) H'
def spKnown (K : PySem.W.Frag) : Sp := spTold fun vs H p hs d a b => ∃ t, vs = [.ref t, .ref p, .int (d : Int)] ∧ H t = some (.tup [.int a, .int b]) ∧ SqL K H p (hl hs)
theorem nat_two {x : V} {i : Nat} (hx : ([V.int 0, V.int 1] : List V)[i]? = some x) : x = .int ((i : Nat) : Int) ∧ i < 2 := by
  rcases i with _ | _ | i
  · exact ⟨by simpa using hx.symm, by decide⟩
  · exact ⟨by simpa using hx.symm, by decide⟩
  · simp at hx
theorem hl_at {hs : List Nat} {i : Nat} {x : V} (hx : (hl hs)[i]? = some x) : ∃ z : Nat, x = .int (z : Int) ∧ hs[i]? = some z := by
  unfold hl at hx
  rw [List.getElem?_map] at hx
  obtain ⟨z, e1, e2⟩ := Option.map_eq_some_iff.mp hx
  exact ⟨z, e2.symm, e1⟩
end TA

set_option Elab.async false
set_option maxRecDepth 100000
set_option maxHeartbeats 4000000
namespace TA
open PySem L2 PyProof.Rows
set_option linter.unusedVariables false
theorem upf_map {α β : Type} (f : α → β) (g : Nat → α) (h : Nat) (x : α) (i : Nat) : upf (fun j => f (g j)) h (f x) i = f (upf g h x i) := by
  unfold upf
  by_cases e : i = h
  · rw [if_pos e, if_pos e]
  · rw [if_neg e, if_neg e]
theorem ints_set (l : Nat → Nat) {h : Nat} (hh : h < 2) (n : Nat) : ([.int (l 0 : Nat), .int (l 1 : Nat)] : List V).set h (.int (n : Int)) = [.int (upf l h n 0 : Nat), .int (upf l h n 1 : Nat)] := by
  have := two_set (fun j => V.int (l j : Nat)) hh (V.int (n : Int))
  rw [upf_map (fun n : Nat => V.int (n : Int)) l h n 0, upf_map (fun n : Nat => V.int (n : Int)) l h n 1] at this
  exact this
def outs (m : M) (d : Nat) (v : Nat → V) (h : Nat) : V := if m.l h = d then v h else .non
theorem int_eq {a b : Nat} : (V.int (a : Int) = V.int (b : Int)) ↔ a = b := ⟨fun e => by injection e with e; omega, fun e => by rw [e]⟩
section
variable {P : Program} {w : World} {K : PySem.W.Frag} {mg : Str → Option Value} {base : Heap}
abbrev nKnown : List Str := ["inputs", "weaving", "rounds", "knows", "cells", "looks", "hand"]
theorem scKnown : FnScope nKnown ["inputs", "weaving", "rounds"] (defScope sKnown) := ⟨rfl, rfl, rfl, by decide +kernel, rfl, by decide +kernel, by decide +kernel⟩
theorem ok_known {f g1 g2 g3 g4 : Addr} {fd d1 d2 d3 d4 : FuncData} (F : Fun K "known" "known" sKnown f fd) (T : Txt K mg) (U : Txt2 K mg) (W1 : Def P w K mg base "is_whole_within" ["thing", "least", "most"] 2 spWithin g1 d1)
    (W2 : Def P w K mg base "is_inputs" ["thing"] 2 spInputs g2 d2) (W3 : Def P w K mg base "is_weaving" ["thing", "rounds"] 4 (spWeaving K) g3 d3) (W4 : Def P w K mg base "put_in" ["cells", "at"] 1 (spPut K) g4 d4) :
    FnOk P w K mg base CX0 5 f fd ["inputs", "weaving", "rounds"] (spKnown K) := by
  refine F.ok scKnown (fun vs H Q E h => ?_) (fun cdv A outer s H vs Q E hr h => ?_)
  · obtain ⟨p, hs, d, a, b, ⟨t, rfl, _⟩, _⟩ := h
    rfl
  obtain ⟨p, hs, d, a, b, ⟨t, rfl, ht, hS⟩, hh, hc, hz, hd, ha, hb, q⟩ := h
  obtain ⟨t5, m5⟩ := U.five
  obtain ⟨hA, mH, hH⟩ := U.hands
  have nd := scKnown.nd
  refine ⟨_, pss_cons (ps_if (pt_not (pt_val (pe_call W1.G (hr.mono (by decide)) rfl W1.m W1.k W1.b .nil pass0 (pa_cons (pv 2) (pa_cons pe_int (pa_cons (pe_glob (v := .int 5) rfl m5 ⟨_, rfl⟩) pa_nil)))))) pss_never pss_nil)
    (pss_cons (ps_if (pt_not (pt_val (pe_call W2.G (hr.mono (by decide)) rfl W2.m W2.k W2.b .nil pass0 (pa_cons (pv 0) pa_nil)))) pss_never pss_nil)
    (pss_cons (ps_if (pt_not (pt_val (pe_call W3.G (hr.mono (by decide)) rfl W3.m W3.k W3.b .nil pass0 (pa_cons (pv 1) (pa_cons (pv 2) pa_nil))))) pss_never pss_nil)
    (pss_cons (ps_set (i := 3) nd rfl (Or.inr rfl) (pe_callTy call_list_of (by rfl) T.list boot_list (pa_cons (pv 0) pa_nil)))
    (pss_cons (ps_set (i := 4) nd rfl (Or.inl rfl) (pe_lst (pa_cons (pe_lst pa_nil) (pa_cons (pe_lst pa_nil) pa_nil))))
    (pss_cons (ps_set (i := 5) nd rfl (Or.inr rfl) (pe_lst (pa_cons pe_int (pa_cons pe_int pa_nil))))
    (pss_cons (ps_for PassesOwn.never rfl (pi_list (pv 1)) (pg_name (i := 6) nd rfl (Or.inl rfl))
      (pss_one (ps_if (pt_cmpR op_gt (pe_callB call_len_seq (by rfl) T.len PySem.boot_len (pa_cons (pe_ix ix_list (pv 4) (pv 6) (fun _ _ => rfl)) pa_nil)) (pe_ix ix_list (pv 5) (pv 6) (fun _ _ => rfl)) (nomark _))
        (pss_cons (ps_asg (pe_tup (pa_cons (pe_ix ix_list (pv 3) (pv 6) (fun _ _ => rfl)) (pa_cons (pe_call W4.G (hr.mono (by decide)) rfl W4.m W4.k W4.b .nil pass0 (pa_cons (pe_ix ix_list (pv 4) (pe_op op_sub pe_int (pv 6)) (fun _ _ => rfl)) (pa_cons (pe_ix ix_list (pv 5) (pv 6) (fun _ _ => rfl)) pa_nil))) pa_nil))) (pg_sub (pv 3) (pv 6) set_list))
          (pss_one (ps_augS (pv 5) (pv 6) get_list pe_int ip_add set_list)))
        (pss_one (ps_expr (pe_bm PySem.F.plainAttrs_list PySem.F.slot_list_append PySem.F.type_list_append mt_append (pe_ix ix_list (pv 4) (pv 6) (fun _ _ => rfl)) (pa_cons (pe_ix ix_list (pv 3) (pv 6) (fun _ _ => rfl)) pa_nil)))))))
    (pss_one (ps_ret (pe_lc (own := [("hand", 6)]) (g := gName 6) (tt := tYes) (te := tIf (tTest (tOp rEq (tOp (rIxL K) (tVar 5) (tVar 6)) (tVar 2))) (tOp (rIxL K) (tVar 3) (tVar 6)) (tC .non)) rfl nd (pi_tup (pe_glob (v := .ref hA) rfl mH rfl)) (blkOk_by (N := nKnown) (sc := defScope sKnown) (by decide +kernel)) (fun _ _ _ _ _ => pg_name (i := 6) nd rfl (Or.inl rfl)) (fun _ _ _ _ _ => pts_nil)
      (fun _ _ _ _ _ => (by refine pe_ifExp ?_ ?_ pe_non; (refine pt_cmpR op_eq ?_ (pv 2) (nomark _); exact pe_ix ix_list (pv 5) (pv 6) (fun _ _ => rfl)); (exact pe_ix ix_list (pv 3) (pv 6) (fun _ _ => rfl))))))))))))), ?_⟩
  have e5 : decide ((0 : Int) ≤ (d : Int) ∧ (d : Int) ≤ 5) = true := decide_eq_true (by omega)
  refine ⟨_, rfl, (d : Int), 0, 5, rfl, true, congrArg V.bl e5, iteF ?_⟩
  refine ⟨_, rfl, t, a, b, rfl, ht, ha, hb, fun H1 s1 => ⟨true, rfl, iteF ?_⟩⟩
  refine ⟨_, rfl, _, rfl, p, hs, d, rfl, s1.seq hS, hh, hc, by omega, fun H2 s2 => ⟨true, rfl, iteF ?_⟩⟩
  have s12 := s1.trans s2
  refine ⟨_, rfl, t, _, rfl, .inr (SqT.of (s12 _ _ ht)), fun kn hkn => ?_⟩
  refine ⟨Nat.zero_le _, fun c0 hc0 => ⟨Nat.zero_le _, fun c1 hc1 => ⟨(by show 2 ≤ sizeLine; decide), fun ce hce => ?_⟩⟩⟩
  refine ⟨(by show 2 ≤ sizeLine; decide), fun lo hlo => ?_⟩
  have sa := same_new hkn (.lst [V.int a, V.int b])
  have sb := sa.trans (same_new hc0 (.lst []))
  have sc := sb.trans (same_new hc1 (.lst []))
  have sd := sc.trans (same_new hce (.lst [V.ref c0, V.ref c1]))
  have se := sd.trans (same_new hlo (.lst [V.int 0, V.int 0]))
  have K0 : KS H2 (upd (upd (upd (upd (upd H2 kn (.lst [V.int a, V.int b])) c0 (.lst [])) c1 (.lst [])) ce (.lst [V.ref c0, V.ref c1])) lo (.lst [V.int 0, V.int 0])) kn ce lo (fun i => if i = 0 then c0 else c1) (M0 a b) := by
    have q1 := upd_same (H := H2) (a := kn) (o := .lst [V.int a, V.int b])
    have q2 := upd_same (H := upd H2 kn (.lst [V.int a, V.int b])) (a := c0) (o := .lst [])
    have q3 := upd_same (H := upd (upd H2 kn (.lst [V.int a, V.int b])) c0 (.lst [])) (a := c1) (o := .lst [])
    have q4 := upd_same (H := upd (upd (upd H2 kn (.lst [V.int a, V.int b])) c0 (.lst [])) c1 (.lst [])) (a := ce) (o := .lst [V.ref c0, V.ref c1])
    have b2 := same_new hc0 (.lst [])
    have b3 := same_new hc1 (.lst [])
    have b4 := same_new hce (.lst [V.ref c0, V.ref c1])
    have b5 := same_new hlo (.lst [V.int 0, V.int 0])
    have two : ∀ {R : Addr → Prop}, R c0 → R c1 → ∀ h < 2, R ((fun i : Nat => if i = 0 then c0 else c1) h) := fun r0 r1 h hh => by
      rcases h with _ | _ | h
      · exact r0
      · exact r1
      · omega
    refine { same := se, f1 := hkn, f2 := sc.free hce, f3 := sd.free hlo, f4 := two (R := fun c => H2 c = none) (sa.free hc0) (sb.free hc1), n1 := ne_of_none (b3 _ _ (b2 _ _ q1)) hce, n2 := ne_of_none (b4 _ _ (b3 _ _ (b2 _ _ q1))) hlo, n3 := two (R := fun c => kn ≠ c) (ne_of_none q1 hc0) (ne_of_none (b2 _ _ q1) hc1), n4 := ne_of_none q4 hlo, n5 := two (R := fun c => ce ≠ c) (ne_of_none (b3 _ _ q2) hce).symm (ne_of_none q3 hce).symm, n6 := two (R := fun c => lo ≠ c) (ne_of_none (b4 _ _ (b3 _ _ q2)) hlo).symm (ne_of_none (b4 _ _ q3) hlo).symm, n7 := ne_of_none q2 hc1, hk := ⟨fun i => if i = 0 then .int a else .int b, b5 _ _ (b4 _ _ (b3 _ _ (b2 _ _ q1))), fun h hh => ?_⟩, he := b5 _ _ q4, ho := upd_same, hc := ?_ }
    · rcases h with _ | _ | h
      · exact .int a
      · exact .int b
      · omega
    · intro h hh
      rcases h with _ | _ | h
      · exact ⟨[], b5 _ _ (b4 _ _ (b3 _ _ q2)), .nil⟩
      · exact ⟨[], b5 _ _ (b4 _ _ q3), .nil⟩
      · omega
  generalize (fun i : Nat => if i = 0 then c0 else c1) = cs at K0
  have lenH : (hl hs).length = hs.length := List.length_map _
  refine ⟨_, rfl, p, rfl, ⟨_, (s12.trans se).seq hS⟩, for_list (K := K) (a := p) (xs := hl hs) (fun i σ Hc => ∃ g, σ = [some (.ref t), some (.ref p), some (.int (d : Int)), some (.ref kn), some (.ref ce), some (.ref lo), g] ∧ KS H2 Hc kn ce lo cs ((M0 a b).run (hs.take i))) ⟨none, rfl, K0⟩ ?_ ?_ ?_⟩
  · rintro i σ Hc _ ⟨g, _, S⟩
    exact (s12.trans S.same).seq hS
  · rintro i x σ Hc hx ⟨g, rfl, S⟩
    obtain ⟨z, rfl, hz1⟩ := hl_at hx
    have hz2 : z < 2 := hh z (List.mem_of_getElem? hz1)
    have er : (M0 a b).run (hs.take (i + 1)) = ((M0 a b).run (hs.take i)).step z := by
      rw [List.take_add_one, hz1]
      exact M.run_snoc _ _ _
    rw [er]
    have hdn : ((M0 a b).run (hs.take i)).done z ≤ 40 := by
      rw [M.done_run]
      have h1 := List.count_le_length (a := z) (l := hs.take i)
      rw [List.length_take] at h1
      show 0 + 0 + _ ≤ 40
      omega
    generalize (M0 a b).run (hs.take i) = m at S hdn ⊢
    obtain ⟨v, hk, hkn'⟩ := S.hk
    obtain ⟨ws, hw, hwa⟩ := S.hc z hz2
    have hwl := hwa.len
    have he2 := at_two (fun i => V.ref (cs i)) hz2
    have ho2 := at_two (fun i => V.int ((m.l i : Nat) : Int)) hz2
    refine ⟨_, rfl, _, rfl, ce, _, _, _, rfl, rfl, SqL.of S.he, he2, cs z, ws, rfl, .inl (SqL.of hw), _, rfl, _, rfl, lo, _, _, _, rfl, rfl, SqL.of S.ho, ho2, _, _, rfl, rfl, _, rfl, ?_⟩
    refine ite2 (fun c1 => ?_) (fun c1 => ?_)
    · have c2 : ((m.l z : Nat) : Int) < ((ws.length : Nat) : Int) := of_decide_eq_true c1
      have c3 : m.l z < (m.c z).length := by omega
      obtain ⟨ws2, hw2, hwa2⟩ := S.hc (1 - z) (by omega)
      have he3 : atI [V.ref (cs 0), V.ref (cs 1)] ((1 : Int) - (z : Int)) = some (.ref (cs (1 - z))) := by
        rw [show (1 : Int) - (z : Int) = ((1 - z : Nat) : Int) by omega]
        exact at_two (fun i => V.ref (cs i)) (by omega)
      refine ⟨_, rfl, _, rfl, kn, _, _, _, rfl, rfl, SqL.of hk, at_two v hz2, _, rfl, _, rfl, _, _, rfl, rfl, ce, _, _, _, rfl, rfl, SqL.of S.he, he3, _, rfl, _, rfl, lo, _, _, _, rfl, rfl, SqL.of S.ho, ho2, cs (1 - z), ws2, m.l z, rfl, SqL.of hw2, (by show 2 ≤ sizeLine; decide), fun q0 hq0 => ?_⟩
      have n1 := ne_of_none hk hq0
      have n2 := ne_of_none S.ho hq0
      refine ⟨_, rfl, _, rfl, kn, [v 0, v 1], _, z, rfl, rfl, by rw [upd_ne n1]; exact hk, ixN_two hz2, ?_⟩
      have ho3 : (upd (upd Hc q0 (.tup [v z, ws2.getD (m.l z) .non])) kn (.lst ([v 0, v 1].set z (.ref q0)))) lo = some (.lst [.int (m.l 0 : Nat), .int (m.l 1 : Nat)]) := by
        rw [upd_ne S.n2.symm, upd_ne n2]
        exact S.ho
      refine ⟨_, rfl, _, rfl, lo, _, z, _, rfl, rfl, SqL.of ho3, two_get (fun i => V.int ((m.l i : Nat) : Int)) hz2, _, _, rfl, rfl, lo, [.int (m.l 0 : Nat), .int (m.l 1 : Nat)], _, z, rfl, rfl, ho3, ixN_two hz2, ?_⟩
      refine ⟨_, rfl, ?_⟩
      have r := S.look hz2 c3 hk hkn' (hwa2.getD (m.l z)) hq0
      rw [← two_set v hz2, ← ints_set m.l hz2] at r
      exact r
    · have c2 : ¬ ((m.l z : Nat) : Int) < ((ws.length : Nat) : Int) := of_decide_eq_false (Bool.eq_false_iff.mpr c1)
      have c3 : ¬ m.l z < (m.c z).length := by omega
      have hsz : ws.length < sizeLine := by
        unfold M.done at hdn
        exact Nat.lt_of_le_of_lt (show ws.length ≤ 40 by omega) (by decide)
      refine ⟨_, rfl, _, rfl, ce, _, _, _, rfl, rfl, SqL.of S.he, he2, .inl ⟨rfl, _, SqL.of hw⟩, _, rfl, _, rfl, kn, _, _, _, rfl, rfl, SqL.of hk, at_two v hz2, cs z, ws, _, rfl, rfl, hw, hsz, ?_⟩
      exact ⟨_, rfl, S.put hz2 c3 hw hwa (hkn' z hz2)⟩
  · rintro σ Hc ⟨g, rfl, S⟩
    rw [lenH, List.take_length] at S
    have wf := M.wf_run (M.wf0 a b) hh
    have dn : ∀ h < 2, ((M0 a b).run hs).done h ≤ 2 * d := fun h h2 => by
      rw [M.done_run]
      have := hc h h2
      show 0 + 0 + _ ≤ _
      omega
    generalize (M0 a b).run hs = m at S wf dn q ⊢
    obtain ⟨v, hk, hkn'⟩ := S.hk
    refine ⟨hA, rfl, ⟨_, hH _⟩, fun D hD => ?_⟩
    refine tup_turns (xs := [V.int 0, V.int 1]) (fun i H' => Same Hc H' ∧ H' D = some (.lst ([outs m d v 0, outs m d v 1].take i))) ⟨same_new hD _, upd_same⟩ (fun i H' _ h => hH _) ?_ ?_
    · rintro i x H' hx ⟨s3, h3⟩
      obtain ⟨rfl, hi⟩ := nat_two hx
      have fin : ∀ H'', Same H' H'' → ∃ acc, H'' D = some (.lst acc) ∧ acc.length < sizeLine ∧ (Same Hc (upd H'' D (.lst (acc ++ [outs m d v i]))) ∧ (upd H'' D (.lst (acc ++ [outs m d v i]))) D = some (.lst ([outs m d v 0, outs m d v 1].take (i + 1)))) := fun H'' s4 => by
        refine ⟨_, s4 _ _ h3, Nat.lt_of_le_of_lt (List.length_take_le i _) (Nat.lt_of_lt_of_le hi (by decide)), same_upd (s3.trans s4) hD, ?_⟩
        rw [upd_same, List.take_add_one, two_get (outs m d v) hi]
        all_goals rfl
      refine ⟨rfl, _, rfl, _, rfl, lo, _, _, _, rfl, rfl, SqL.of (s3 _ _ S.ho), at_two (fun i => V.int ((m.l i : Nat) : Int)) hi, _, rfl, rfl, _, rfl, ?_⟩
      refine ite2 (fun c1 => ?_) (fun c1 => ?_)
      · have c2 : m.l i = d := int_eq.mp (of_decide_eq_true c1)
        have r := fin H' (Same.refl _)
        rw [show outs m d v i = v i by unfold outs; rw [if_pos c2]] at r
        exact ⟨_, rfl, _, rfl, kn, _, _, _, rfl, rfl, SqL.of (s3 _ _ hk), at_two v hi, r⟩
      · have c2 : ¬ m.l i = d := fun e => c1 (decide_eq_true (int_eq.mpr e))
        have r := fin H' (Same.refl _)
        rw [show outs m d v i = .non by unfold outs; rw [if_neg c2]] at r
        exact r
    · rintro H' ⟨s3, h3⟩
      have sH := s12.trans (S.same.trans s3)
      refine q D (outs m d v) H' sH (s12.free (S.same.free hD)) h3 fun h h2 => ?_
      have st := M.stopped wf h2 (dn h h2)
      unfold outs M.res
      by_cases c : m.l h = d
      · rw [if_pos c, if_pos (st.mp c)]
        exact (hkn' h h2).mono (Tups.same s3)
      · rw [if_neg c, if_neg (fun e => c (st.mpr e))]
        exact .non
end
end TA

set_option Elab.async false
set_option maxRecDepth 100000
set_option maxHeartbeats 4000000
namespace TA
open PySem L2 PyProof.Rows
set_option linter.unusedVariables false
/-- all but what stands at a is as it was -/
def But (a : Addr) (H H' : Hp) : Prop := ∀ b o, b ≠ a → H b = some o → H' b = some o
def WellAt (H : Hp) (a : Addr) (n : Int) : Prop := ∃ x y z : Int, H a = some (.lst [.int x, .int y, .int z]) ∧ 0 ≤ x ∧ 0 ≤ y ∧ y < 2147483629 ∧ 0 ≤ z ∧ z ≤ n
theorem But.trans {a : Addr} {H H1 H2 : Hp} (h : But a H H1) (g : But a H1 H2) : But a H H2 := fun b o e q => g b o e (h b o e q)
theorem But.same {a : Addr} {H H' : Hp} (s : Same H H') : But a H H' := fun b o _ q => s b o q
theorem WellAt.same {H H' : Hp} {a : Addr} {n : Int} (s : Same H H') (w : WellAt H a n) : WellAt H' a n := by
  obtain ⟨x, y, z, h, r⟩ := w
  exact ⟨x, y, z, s _ _ h, r⟩
theorem WellAt.up {H : Hp} {a : Addr} {n m : Int} (w : WellAt H a n) (h : n ≤ m) : WellAt H a m := by
  obtain ⟨x, y, z, e, r1, r2, r3, r4, r5⟩ := w
  exact ⟨x, y, z, e, r1, r2, r3, r4, by omega⟩
theorem But.free {a : Addr} {H H' : Hp} {m : Int} (b : But a H H') (w : WellAt H' a m) {q : Addr} (h : H' q = none) : H q = none := by
  obtain ⟨x, y, z, e, _⟩ := w
  have nq : q ≠ a := fun c => by rw [c, e] at h; cases h
  cases g : H q with
  | none => rfl
  | some o => rw [b q o nq g] at h; cases h
def spDraw2 : Sp := fun vs H Q _ => ∃ (a : Addr) (n m : Int), vs = [.ref a, .int m] ∧ WellAt H a n ∧ n < 999999 ∧ 0 < m ∧ m < 2 ^ 100 ∧ ∀ (r : Int) (H' : Hp), 0 ≤ r → r < m → But a H H' → WellAt H' a (n + 1) → Q (.int r) H'
def spOne2 : Sp := fun vs H Q _ => ∃ (a l : Addr) (n : Int) (xs : List V), vs = [.ref a, .ref l] ∧ WellAt H a n ∧ n < 999999 ∧ H l = some (.lst xs) ∧ a ≠ l ∧ 0 < xs.length ∧ xs.length < 1000 ∧ ∀ (i : Nat) (v : V) (H' : Hp), xs[i]? = some v → But a H H' → WellAt H' a (n + 1) → Q v H'
theorem weak {P : Program} {w : World} {K : PySem.W.Frag} {mg : Str → Option Value} {base : Heap} {k : Nat} {f : Addr} {fd : FuncData} {ps : List Str} {sp sp' : Sp} (F : FnOk P w K mg base CX0 k f fd ps sp) (i : ∀ vs H Q E, sp' vs H Q E → sp vs H Q E) : FnOk P w K mg base CX0 k f fd ps sp' :=
  ⟨fun vs H Q E h => F.len vs H Q E (i _ _ _ _ h), fun A outer s H args us vs Q E a b c d h => F.run A outer s H args us vs Q E a b c d (i _ _ _ _ h)⟩
theorem draw_weak (vs : List V) (H : Hp) (Q : VK) (E : XK) (h : spDraw2 vs H Q E) : spDraw vs H Q E := by
  obtain ⟨a, n, m, rfl, ⟨x, y, z, e, r1, r2, r3, r4, r5⟩, hn, hm, hm2, q⟩ := h
  exact ⟨a, x, y, z, m, rfl, e, r1, r2, r3, r4, by omega, hm, hm2, fun r x' z' h0 h1 hx hz hz2 => q r _ h0 h1 (fun b o nb hb => by rw [upd_ne nb]; exact hb) ⟨x', y, z', upd_same, hx, r2, r3, by omega, by omega⟩⟩
theorem one_weak {K : PySem.W.Frag} (vs : List V) (H : Hp) (Q : VK) (E : XK) (h : spOne2 vs H Q E) : spOne K vs H Q E := by
  obtain ⟨a, l, n, xs, rfl, ⟨x, y, z, e, r1, r2, r3, r4, r5⟩, hn, hl, al, l0, l1, q⟩ := h
  exact ⟨a, l, x, y, z, xs, rfl, e, r1, r2, r3, r4, by omega, hl, al, l0, l1, fun i v x' z' hv hx hz hz2 => q i v _ hv (fun b o nb hb => by rw [upd_ne nb]; exact hb) ⟨x', y, z', upd_same, hx, r2, r3, by omega, by omega⟩⟩
/-- a weaving that is drawn -/
def spLW : Sp := fun vs H Q _ => ∃ (a : Addr) (n : Int) (d : Nat) (st : Bool), vs = [.ref a, .int (d : Int), .bl st] ∧ WellAt H a n ∧ n ≤ 900000 ∧ d ≤ 5 ∧
  ∀ (o : Addr) (hs : List Nat) (H' : Hp), But a H H' → WellAt H' a (n + 100) → H o = none → H' o = some (.lst (hl hs)) → (∀ h ∈ hs, h < 2) → (∀ h < 2, hs.count h ≤ 2 * d) → (st = false → ∀ h < 2, hs.count h = 2 * d) → Q (.ref o) H'
def avail (l : Nat → Nat) (i : Nat) : List Nat := (([0, 1] : List Nat).take i).filter fun h => decide (0 < l h)
theorem avail_mem {l : Nat → Nat} {i h : Nat} (m : h ∈ avail l i) : h < 2 ∧ 0 < l h := by
  unfold avail at m
  obtain ⟨m1, m2⟩ := List.mem_filter.mp m
  have m3 := List.mem_of_mem_take m1
  have : h = 0 ∨ h = 1 := by simpa using m3
  exact ⟨by omega, of_decide_eq_true m2⟩
theorem avail_step {l : Nat → Nat} {i : Nat} (hi : i < 2) : avail l (i + 1) = if 0 < l i then avail l i ++ [i] else avail l i := by
  unfold avail
  have e : ([0, 1] : List Nat)[i]? = some i := two_get (fun i => i) hi
  rw [List.take_add_one, e, List.filter_append]
  by_cases c : 0 < l i
  · rw [if_pos c]; simp [c]
  · rw [if_neg c]; simp [c]
theorem avail_len (l : Nat → Nat) (i : Nat) : (avail l i).length ≤ 2 := by
  unfold avail
  refine Nat.le_trans (List.length_filter_le _ _) ?_
  rw [List.length_take]
  exact Nat.min_le_right _ _
theorem avail_pos {l : Nat → Nat} (h : 0 < l 0 + l 1) : 0 < (avail l 2).length := by
  rw [avail_step (by decide), avail_step (by decide)]
  by_cases c : 0 < l 1
  · rw [if_pos c, List.length_append]; show 0 < _ + 1; omega
  · rw [if_neg c, if_pos (show 0 < l 0 by omega), List.length_append]; show 0 < _ + 1; omega
theorem hl_snoc (hs : List Nat) (z : Nat) : hl hs ++ [V.int (z : Int)] = hl (hs ++ [z]) := by
  unfold hl
  rw [List.map_append]
  rfl
theorem join {b : Bool} {X : Prop} {R : Hp → Prop} {H : Hp} (Iv : Hp → Prop) (h0 : Iv H) (k : ∀ Hc, Iv Hc → R Hc) (h1 : b = true → (∀ Hc, Iv Hc → R Hc) → X) : if b = true then X else R H := by
  cases b with
  | false => exact iteF (k H h0)
  | true => exact iteT (h1 rfl k)
def LWI (H : Hp) (a mn lf fo : Addr) (n : Int) (d : Nat) (st : Bool) (m : Nat) (σ : L2.St) (Hc : Hp) : Prop := ∃ (l : Nat → Nat) (hs : List Nat) (g1 g2 : Option V), m = l 0 + l 1 ∧
  σ = [some (.ref a), some (.int (d : Int)), some (.bl st), some (.ref mn), some (.ref lf), some (.ref fo), g1, g2] ∧ But a H Hc ∧ WellAt Hc a (n + 2 + 3 * (20 - ((l 0 + l 1 : Nat) : Int))) ∧
  Hc lf = some (.lst [.int (l 0 : Nat), .int (l 1 : Nat)]) ∧ Hc fo = some (.lst (hl hs)) ∧ (∀ h ∈ hs, h < 2) ∧ (∀ h < 2, hs.count h + l h ≤ 2 * d) ∧ (st = false → ∀ h < 2, hs.count h + l h = 2 * d)
theorem len_counts : ∀ hs : List Nat, (∀ h ∈ hs, h < 2) → hs.length = hs.count 0 + hs.count 1
  | [], _ => rfl
  | h :: r, q => by
    have ih := len_counts r (fun x hx => q x (List.mem_cons_of_mem _ hx))
    have h2 := q h List.mem_cons_self
    rw [List.length_cons, List.count_cons, List.count_cons, ih]
    rcases h with _ | _ | h
    · simp; omega
    · simp; omega
    · omega
theorem But.upd {a p : Addr} {H H' : Hp} {o : HO} (b : But a H H') (f : H p = none) : But a H (L2.upd H' p o) := fun c u nc e => by
  rw [upd_ne (ne_of_none e f)]
  exact b _ _ nc e
theorem WellAt.upd {a p : Addr} {H : Hp} {o : HO} {n : Int} (w : WellAt H a n) (f : a ≠ p) : WellAt (L2.upd H p o) a n := by
  obtain ⟨x, y, z, e, r⟩ := w
  exact ⟨x, y, z, by rw [upd_ne f]; exact e, r⟩
section
variable {P : Program} {w : World} {K : PySem.W.Frag} {mg : Str → Option Value} {base : Heap}
abbrev nLW : List Str := ["_law_well_here", "_law_deep", "_law_stops", "_law_many", "_law_left", "_law_found", "_law_hand", "_law_step"]
theorem scLW : FnScope nLW ["_law_well_here", "_law_deep", "_law_stops"] (defScope sLawWeav) := ⟨rfl, rfl, rfl, by decide +kernel, rfl, by decide +kernel, by decide +kernel⟩
theorem ok_lw {f g1 g2 : Addr} {fd d1 d2 : FuncData} (F : Fun K "_law_weaving" "_law_weaving" sLawWeav f fd) (T : Txt K mg) (D1 : Def P w K mg base "_law_draw" ["_law_well_here", "_law_many"] 1 spDraw2 g1 d1) (D2 : Def P w K mg base "_law_one" ["_law_well_here", "_law_some"] 2 spOne2 g2 d2) :
    FnOk P w K mg base CX0 3 f fd ["_law_well_here", "_law_deep", "_law_stops"] spLW := by
  refine F.ok scLW (fun vs H Q E h => ?_) (fun cdv A outer s H vs Q E hr h => ?_)
  · obtain ⟨a, n, d, st, rfl, _⟩ := h
    rfl
  obtain ⟨a, n, d, st, rfl, hW, hn, hd, q⟩ := h
  have nd := scLW.nd
  refine ⟨_, pss_cons (ps_set (i := 3) nd rfl (Or.inl rfl) (pe_lst (pa_cons (pe_op op_mul pe_int (pv 1)) (pa_cons (pe_op op_mul pe_int (pv 1)) pa_nil))))
    (pss_cons (ps_if (pt_val (pv 2)) (pss_one (ps_asg (pe_call D1.G (hr.mono (by decide)) rfl D1.m D1.k D1.b .nil pass0 (pa_cons (pv 0) (pa_cons (pe_op op_add (pe_op op_mul pe_int (pv 1)) pe_int) pa_nil))) (pg_sub (pv 3) (pe_call D1.G (hr.mono (by decide)) rfl D1.m D1.k D1.b .nil pass0 (pa_cons (pv 0) (pa_cons pe_int pa_nil))) set_list))) pss_nil)
    (pss_cons (ps_set (i := 4) nd rfl (Or.inr rfl) (pe_callTy call_list_of (by rfl) T.list boot_list (pa_cons (pv 3) pa_nil)))
    (pss_cons (ps_set (i := 5) nd rfl (Or.inl rfl) (pe_lst pa_nil))
    (pss_cons (ps_while PassesOwn.never (pt_cmpR op_gt (pe_callB (cr_sum rfl) (by rfl) T.sum (by decide +kernel) (pa_cons (pv 4) pa_nil)) pe_int (nomark _))
      (pss_cons (ps_set (i := 6) nd rfl (Or.inl rfl) (pe_call D2.G (hr.mono (by decide)) rfl D2.m D2.k D2.b .nil pass0 (pa_cons (pv 0) (pa_cons
          (pe_lc (own := [("_law_hand", 6)]) (g := gName 6) (tt := tTest (tOp (rI0 fun i j => .bl (decide (j < i))) (tOp (rIxL K) (tVar 4) (tVar 6)) (tC (.int 0)))) (te := tVar 6) rfl nd (pi_range1 rfl T.range (pa_cons pe_int pa_nil)) (blkOk_by (N := nLW) (sc := defScope sLawWeav) (by decide +kernel)) (fun _ _ _ _ _ => pg_name (i := 6) nd rfl (Or.inl rfl))
            (fun _ _ _ _ _ => (by refine pts_one (pt_cmpR op_gt ?_ pe_int (nomark _)); exact pe_ix ix_list (pv 4) (pv 6) (fun _ _ => rfl))) (fun _ _ _ _ _ => pv 6)) pa_nil))))
      (pss_one (ps_for PassesOwn.never rfl (pi_range1 rfl T.range (pa_cons (pe_callB (call_min2 rfl) (by rfl) T.min (by decide +kernel) (pa_cons (pe_ix ix_list (pv 4) (pv 6) (fun _ _ => rfl)) (pa_cons (pe_op op_add pe_int (pe_call D1.G (hr.mono (by decide)) rfl D1.m D1.k D1.b .nil pass0 (pa_cons (pv 0) (pa_cons (pe_call D2.G (hr.mono (by decide)) rfl D2.m D2.k D2.b .nil pass0 (pa_cons (pv 0) (pa_cons (pe_lst (pa_cons pe_int (pa_cons pe_int (pa_cons pe_int pa_nil)))) pa_nil))) pa_nil)))) pa_nil))) pa_nil)) (pg_name (i := 7) nd rfl (Or.inl rfl))
        (pss_cons (ps_expr (pe_bm PySem.F.plainAttrs_list PySem.F.slot_list_append PySem.F.type_list_append mt_append (pv 5) (pa_cons (pv 6) pa_nil)))
        (pss_one (ps_asg (pe_op op_sub (pe_ix ix_list (pv 4) (pv 6) (fun _ _ => rfl)) pe_int) (pg_sub (pv 4) (pv 6) set_list))))))))
    (pss_one (ps_ret (pv 5))))))), ?_⟩
  refine ⟨_, rfl, _, _, rfl, rfl, .inl ⟨by decide, by decide⟩, _, rfl, _, _, rfl, rfl, .inl ⟨by decide, by decide⟩, (by show 2 ≤ sizeLine; decide), fun mn hmn => ?_⟩
  obtain ⟨x0, y0, z0, ea, _⟩ := id hW
  have nam : a ≠ mn := ne_of_none ea hmn
  have s0 := same_new hmn (.lst [V.int (2 * (d : Int)), V.int (2 * (d : Int))])
  have hm1 : (upd H mn (.lst [V.int (2 * (d : Int)), V.int (2 * (d : Int))])) mn = some (.lst [V.int (2 * (d : Int)), V.int (2 * (d : Int))]) := upd_same
  have b0 : But a H (upd H mn (.lst [V.int (2 * (d : Int)), V.int (2 * (d : Int))])) := But.same s0
  have w0 : WellAt (upd H mn (.lst [V.int (2 * (d : Int)), V.int (2 * (d : Int))])) a n := hW.same s0
  generalize upd H mn (.lst [V.int (2 * (d : Int)), V.int (2 * (d : Int))]) = H1 at hm1 b0 w0 ⊢
  have e2d : V.int (2 * (d : Int)) = V.int ((2 * d : Nat) : Int) := by congr 1
  refine ⟨_, rfl, st, rfl, ?_⟩
  refine join (H := H1) (fun Hc => But a H Hc ∧ WellAt Hc a (n + 2) ∧ ∃ l : Nat → Nat, Hc mn = some (.lst [.int (l 0 : Nat), .int (l 1 : Nat)]) ∧ (∀ h < 2, l h ≤ 2 * d) ∧ (st = false → ∀ h < 2, l h = 2 * d)) ?_ ?_ ?_
  · refine ⟨b0, w0.up (by omega), fun _ => 2 * d, ?_, fun _ _ => Nat.le_refl _, fun _ _ _ => rfl⟩
    rw [hm1, e2d]
  · rintro Hc ⟨b1, w1, l, hl1, hl2, hl3⟩
    refine ⟨_, rfl, mn, _, rfl, .inl (SqL.of hl1), fun lf hlf => ⟨Nat.zero_le _, fun fo hfo => ?_⟩⟩
    obtain ⟨x1, y1, z1, ec, _⟩ := id w1
    have nalf : a ≠ lf := ne_of_none ec hlf
    have s1 := same_new hlf (.lst [V.int (l 0 : Nat), V.int (l 1 : Nat)])
    have s2 := s1.trans (same_new hfo (.lst []))
    have nafo : a ≠ fo := ne_of_none (s1 _ _ ec) hfo
    have nlfo : lf ≠ fo := ne_of_none upd_same hfo
    have H0lf : H lf = none := b1.free w1 hlf
    have H0fo : H fo = none := b1.free w1 (s1.free hfo)
    have hlf1 : (upd (upd Hc lf (.lst [V.int (l 0 : Nat), V.int (l 1 : Nat)])) fo (.lst [])) lf = some (.lst [V.int (l 0 : Nat), V.int (l 1 : Nat)]) := by rw [upd_ne nlfo]; exact upd_same
    refine ⟨LWI H a mn lf fo n d st, ⟨l 0 + l 1, l, [], none, none, rfl, rfl, b1.trans (But.same s2), ?_, hlf1, upd_same, (fun h hh => by cases hh), (fun h hh => ?_), fun e h hh => by have := hl3 e h hh; show 0 + _ = _; omega⟩, ?_⟩
    · refine (w1.same s2).up ?_
      have := hl2 0 (by decide)
      have := hl2 1 (by decide)
      omega
    · have := hl2 h hh
      show 0 + _ ≤ _
      omega
    rintro m σ Hw ⟨l, hs, g1, g2, rfl, rfl, bw, ww, hlw, hfw, hh, hcl, hce⟩
    have c0 := hcl 0 (by decide)
    have c1 := hcl 1 (by decide)
    have hlen := len_counts hs hh
    have esum : (([((l 0 : Nat) : Int), ((l 1 : Nat) : Int)] : List Int).sum) = ((l 0 + l 1 : Nat) : Int) := by
      simp [List.sum_cons]
    refine ⟨_, rfl, lf, [((l 0 : Nat) : Int), ((l 1 : Nat) : Int)], rfl, SqL.of hlw, _, _, rfl, rfl, _, rfl, ?_⟩
    rw [esum]
    refine ite2 (fun c => ?_) (fun c => ?_)
    · have cp : (0 : Int) < ((l 0 + l 1 : Nat) : Int) := of_decide_eq_true c
      refine ⟨fun σ' H' => ∃ m', m' < l 0 + l 1 ∧ LWI H a mn lf fo n d st m' σ' H', fun σ' H' h => h, ?_⟩
      refine ⟨_, rfl, 2, rfl, by decide, by decide, fun D hD => ?_⟩
      obtain ⟨xw, yw, zw, ew, _⟩ := id ww
      have naD : a ≠ D := ne_of_none ew hD
      refine range_turns (n := 2) (fun i H' => Same Hw H' ∧ H' D = some (.lst (hl (avail l i)))) ⟨same_new hD _, upd_same⟩ ?_ ?_
      · rintro i H' hi ⟨s3, h3⟩
        have ei : (0 : Int) + (i : Int) = (i : Int) := by omega
        rw [ei]
        refine ⟨rfl, _, rfl, _, rfl, lf, _, _, _, rfl, rfl, SqL.of (s3 _ _ hlw), at_two (fun i => V.int ((l i : Nat) : Int)) hi, _, _, rfl, rfl, _, rfl, ?_⟩
        have al := avail_len l i
        refine ite2 (fun c2 => ?_) (fun c2 => ?_)
        · have c3 : (0 : Int) < ((l i : Nat) : Int) := of_decide_eq_true c2
          refine ⟨_, rfl, _, h3, (by unfold hl; rw [List.length_map]; exact Nat.lt_of_le_of_lt al (by decide)), same_upd s3 hD, ?_⟩
          rw [upd_same, hl_snoc, avail_step hi, if_pos (by omega)]
        · have c3 : ¬ (0 : Int) < ((l i : Nat) : Int) := of_decide_eq_false (Bool.eq_false_iff.mpr c2)
          rw [avail_step hi, if_neg (by omega)]
          exact ⟨s3, h3⟩
      · rintro H' ⟨s3, h3⟩
        have pos := avail_pos (l := l) (by omega)
        have al := avail_len l 2
        have lenA : (hl (avail l 2)).length = (avail l 2).length := List.length_map _
        refine ⟨a, D, _, _, rfl, ww.same s3, by omega, h3, naD, by omega, by omega, fun i v H2 hv b2 w2 => ?_⟩
        obtain ⟨z, rfl, hz⟩ := hl_at hv
        obtain ⟨hz2, hzl⟩ := avail_mem (List.mem_of_getElem? hz)
        have hlw2 : H2 lf = _ := b2 _ _ nalf.symm (s3 _ _ hlw)
        have hfw2 : H2 fo = _ := b2 _ _ nafo.symm (s3 _ _ hfw)
        refine ⟨_, rfl, _, rfl, lf, _, _, _, rfl, rfl, SqL.of hlw2, at_two (fun i => V.int ((l i : Nat) : Int)) hz2, _, rfl, _, rfl, (by show 3 ≤ sizeLine; decide), fun D2 hD2 => ?_⟩
        obtain ⟨xv, yv, zv, ev, _⟩ := id w2
        have s4 := same_new hD2 (.lst [V.int 1, V.int 2, V.int 5])
        refine ⟨a, D2, _, _, rfl, w2.same s4, by omega, upd_same, ne_of_none ev hD2, by decide, by decide, fun i2 v2 H3 hv2 b3 w3 => ?_⟩
        obtain ⟨r, rfl, rp, rq⟩ : ∃ r : Int, v2 = .int r ∧ 0 < r ∧ r ≤ 5 := by
          rcases i2 with _ | _ | _ | i2
          · exact ⟨1, by simpa using hv2.symm, by decide, by decide⟩
          · exact ⟨2, by simpa using hv2.symm, by decide, by decide⟩
          · exact ⟨5, by simpa using hv2.symm, by decide, by decide⟩
          · simp at hv2
        refine ⟨a, _, r, rfl, w3, by omega, rp, by omega, fun r2 H4 p0 p1 b4 w4 => ?_⟩
        have b24 : But a H2 H4 := ((But.same s4).trans b3).trans b4
        have hlw4 : H4 lf = _ := b24 _ _ nalf.symm hlw2
        have hfw4 : H4 fo = _ := b24 _ _ nafo.symm hfw2
        have bw4 : But a H H4 := ((bw.trans (But.same s3)).trans b2).trans b24
        refine ⟨_, _, rfl, rfl, _, _, rfl, ?_⟩
        have hk1 : 1 ≤ (if 1 + r2 < ((l z : Nat) : Int) then 1 + r2 else ((l z : Nat) : Int)) ∧ (if 1 + r2 < ((l z : Nat) : Int) then 1 + r2 else ((l z : Nat) : Int)) ≤ ((l z : Nat) : Int) := by
          split <;> omega
        generalize (if 1 + r2 < ((l z : Nat) : Int) then 1 + r2 else ((l z : Nat) : Int)) = kk at hk1 ⊢
        have hzd := hcl z hz2
        refine ⟨kk, rfl, by omega, by omega, ?_⟩
        refine for_range (n := kk.toNat) (fun j σ Hj => ∃ g2, σ = [some (.ref a), some (.int (d : Int)), some (.bl st), some (.ref mn), some (.ref lf), some (.ref fo), some (.int (z : Int)), g2] ∧ But a H Hj ∧ WellAt Hj a (n + 2 + 3 * (20 - ((l 0 + l 1 : Nat) : Int)) + 1 + 1 + 1) ∧ Hj lf = some (.lst [.int (upf l z (l z - j) 0 : Nat), .int (upf l z (l z - j) 1 : Nat)]) ∧ Hj fo = some (.lst (hl (hs ++ List.replicate j z)))) ?_ ?_ ?_
        · refine ⟨_, rfl, bw4, w4, ?_, by rw [List.replicate_zero, List.append_nil]; exact hfw4⟩
          rw [hlw4, ← ints_set l hz2 (l z - 0), Nat.sub_zero]
          rcases z with _ | _ | z
          · rfl
          · rfl
          · omega
        · rintro j σ Hj hj ⟨g2, rfl, bj, wj, hlj, hfj⟩
          have hszj : (hl (hs ++ List.replicate j z)).length < sizeLine := by
            unfold hl
            rw [List.length_map, List.length_append, List.length_replicate]
            exact Nat.lt_of_le_of_lt (show hs.length + j ≤ 100 by omega) (by decide)
          refine ⟨_, rfl, .inl ⟨rfl, _, SqL.of hfj⟩, _, rfl, fo, _, _, rfl, rfl, hfj, hszj, ?_⟩
          have hlj2 : (upd Hj fo (.lst (hl (hs ++ List.replicate j z) ++ [V.int (z : Int)]))) lf = some (.lst [.int (upf l z (l z - j) 0 : Nat), .int (upf l z (l z - j) 1 : Nat)]) := by
            rw [upd_ne nlfo]; exact hlj
          refine ⟨_, rfl, _, rfl, lf, _, _, _, rfl, rfl, SqL.of hlj2, at_two (fun i => V.int ((upf l z (l z - j) i : Nat) : Int)) hz2, _, _, rfl, rfl, _, rfl, _, rfl, lf, [.int (upf l z (l z - j) 0 : Nat), .int (upf l z (l z - j) 1 : Nat)], _, z, rfl, rfl, hlj2, ixN_two hz2, ?_⟩
          refine ⟨_, rfl, (bj.upd H0fo).upd H0lf, (wj.upd nafo).upd nalf, ?_, ?_⟩
          · rw [upd_same]
            have e1 : ((upf l z (l z - j) z : Nat) : Int) - 1 = ((l z - (j + 1) : Nat) : Int) := by
              rw [upf_same]; omega
            show some (HO.lst (([V.int (upf l z (l z - j) 0 : Nat), V.int (upf l z (l z - j) 1 : Nat)]).set z (V.int (((upf l z (l z - j) z : Nat) : Int) - 1)))) = _
            rw [e1, ints_set (upf l z (l z - j)) hz2]
            have e2 : ∀ i, upf (upf l z (l z - j)) z (l z - (j + 1)) i = upf l z (l z - (j + 1)) i := fun i => by
              unfold upf
              split <;> rfl
            rw [e2, e2]
          · rw [upd_ne nlfo.symm, upd_same, hl_snoc, List.append_assoc, List.replicate_succ']
        · rintro σ Hj ⟨g2, rfl, bj, wj, hlj, hfj⟩
          have ek : kk = ((kk.toNat : Nat) : Int) := by omega
          have hsum : upf l z (l z - kk.toNat) 0 + upf l z (l z - kk.toNat) 1 + kk.toNat = l 0 + l 1 := by
            obtain rfl | rfl : z = 0 ∨ z = 1 := by omega
            · show l 0 - kk.toNat + l 1 + kk.toNat = _; omega
            · show l 0 + (l 1 - kk.toNat) + kk.toNat = _; omega
          refine ⟨_, ?_, upf l z (l z - kk.toNat), hs ++ List.replicate kk.toNat z, some (.int (z : Int)), g2, rfl, rfl, bj, wj.up (by omega), hlj, hfj, ?_, ?_, ?_⟩
          · omega
          · intro h hm
            rcases List.mem_append.mp hm with hm | hm
            · exact hh h hm
            · rw [List.eq_of_mem_replicate hm]; exact hz2
          · intro h h2
            have := hcl h h2
            rw [List.count_append, List.count_replicate]
            by_cases e : h = z
            · subst e
              rw [upf_same]
              simp
              omega
            · rw [upf_ne e]
              have e2 : ¬ z = h := fun q => e q.symm
              simp [e2]
              omega
          · intro es h h2
            have := hce es h h2
            have := hcl h h2
            rw [List.count_append, List.count_replicate]
            by_cases e : h = z
            · subst e
              rw [upf_same]
              simp
              omega
            · rw [upf_ne e]
              have e2 : ¬ z = h := fun q => e q.symm
              simp [e2]
              omega
    · have cp : ¬ (0 : Int) < ((l 0 + l 1 : Nat) : Int) := of_decide_eq_false (Bool.eq_false_iff.mpr c)
      exact ⟨_, rfl, q fo hs Hw bw (ww.up (by omega)) H0fo hfw hh (fun h h2 => by have := hcl h h2; omega) (fun e h h2 => by
        have := hce e h h2
        have c0' := hcl 0 (by decide)
        have l0 : l 0 = 0 := by omega
        have l1 : l 1 = 0 := by omega
        obtain rfl | rfl : h = 0 ∨ h = 1 := by omega
        · omega
        · omega)⟩
  · intro est k
    refine ⟨_, rfl, _, rfl, _, _, rfl, rfl, .inl ⟨by decide, by decide⟩, _, _, rfl, rfl, a, n, _, rfl, w0, by omega, by omega, by omega, fun r H2 r0 r1 b1 w1 => ?_⟩
    refine ⟨_, rfl, _, rfl, a, n + 1, 2, rfl, w1, by omega, by decide, by decide, fun r2 H3 p0 p1 b2 w2 => ?_⟩
    have hm3 : H3 mn = some (.lst [V.int (2 * (d : Int)), V.int (2 * (d : Int))]) := b2 _ _ nam.symm (b1 _ _ nam.symm hm1)
    have hr2 : r2.toNat < 2 := by omega
    have er2 : r2 = ((r2.toNat : Nat) : Int) := by omega
    refine ⟨mn, [V.int (2 * (d : Int)), V.int (2 * (d : Int))], r2, r2.toNat, rfl, rfl, hm3, by rw [er2]; exact ixN_two hr2, ?_⟩
    refine k _ ⟨((b0.trans b1).trans b2).upd hmn, (w2.upd nam).up (by omega), upf (fun _ => 2 * d) r2.toNat r.toNat, ?_, fun h hh => ?_, fun e => by rw [est] at e; cases e⟩
    · rw [upd_same, e2d, ← ints_set (fun _ => 2 * d) hr2 r.toNat, show ((r.toNat : Nat) : Int) = r by omega]
    · unfold upf
      split
      · omega
      · exact Nat.le_refl _
end
end TA

set_option Elab.async false
set_option maxRecDepth 100000
set_option maxHeartbeats 4000000
namespace TA
open PySem L2 PyProof.Rows
set_option linter.unusedVariables false
/-! places, in plain mathematics -/
abbrev Stands := Int × Option Int × Option Int
def agr : Option Int → Option Int → Bool
  | some a, some b => decide (a = b)
  | _, _ => true
def fst2 : Option Int → Option Int → Option Int
  | none, b => b
  | some a, _ => some a
def metD (u v : Stands) : Option Stands :=
  if (v.1 - u.1).natAbs = 1 ∧ agr u.2.1 v.2.1 = true ∧ agr u.2.2 v.2.2 = true then some (3 * u.1 + 2 * (v.1 - u.1), fst2 u.2.1 v.2.1, fst2 u.2.2 v.2.2) else none
def isN : PyData → Bool
  | .none => true
  | _ => false
def stand1 (u : Option Stands) (y : PyData) (v : Option Stands) : Option Stands := u.bind fun u => if isN y = true then some (3 * u.1, u.2.1, u.2.2) else v.bind (metD u)
def stand : Nat → PyData → Nat → Option Stands
  | 0, .int i, h => if 0 ≤ i then some (if h = 0 then (0, some i, none) else (1, none, some i)) else none
  | r + 1, .tuple [x, y], h => stand1 (stand r x h) y (stand r y (1 - h))
  | _, _, _ => none
/-- how deep, at most n -/
def rb : Nat → PyData → Nat
  | n + 1, .tuple [x, _] => rb n x + 1
  | _, _ => 0
def placeD (d : PyData) (h : Nat) : Option Int := (stand (rb 5 d) d h).map (·.1)
theorem stand0 {d : PyData} {h : Nat} {u : Stands} (e : stand 0 d h = some u) : ∃ i : Int, d = .int i ∧ 0 ≤ i ∧ u = (if h = 0 then (0, some i, none) else (1, none, some i)) := by
  cases d with
  | int i =>
    simp only [stand] at e
    split at e
    · cases e; exact ⟨i, rfl, by assumption, rfl⟩
    · cases e
  | _ => simp [stand] at e
theorem standS {r : Nat} {d : PyData} {h : Nat} {u : Stands} (e : stand (r + 1) d h = some u) : ∃ x y u0, d = .tuple [x, y] ∧ stand r x h = some u0 ∧ ((isN y = true ∧ u = (3 * u0.1, u0.2.1, u0.2.2)) ∨ (isN y = false ∧ ∃ v, stand r y (1 - h) = some v ∧ metD u0 v = some u)) := by
  match d, e with
  | .tuple [x, y], e =>
    simp only [stand, stand1] at e
    cases e1 : stand r x h with
    | none => rw [e1] at e; cases e
    | some u0 =>
      rw [e1] at e
      refine ⟨x, y, u0, rfl, e1, ?_⟩
      by_cases c : isN y = true
      · rw [Option.bind_some, if_pos c] at e
        exact .inl ⟨c, by cases e; rfl⟩
      · rw [Option.bind_some, if_neg c] at e
        cases e2 : stand r y (1 - h) with
        | none => rw [e2] at e; cases e
        | some v =>
          rw [e2] at e
          exact .inr ⟨Bool.eq_false_iff.mpr c, v, rfl, e⟩
  | .none, e => simp [stand] at e
  | .bool _, e => simp [stand] at e
  | .int _, e => simp [stand] at e
  | .str _, e => simp [stand] at e
  | .list _, e => simp [stand] at e
  | .dict _, e => simp [stand] at e
  | .tuple [], e => simp [stand] at e
  | .tuple [_], e => simp [stand] at e
  | .tuple (_ :: _ :: _ :: _), e => simp [stand] at e
theorem stand_rb : ∀ {r : Nat} {d : PyData} {h : Nat} {u : Stands}, stand r d h = some u → ∀ n, rb n d = min n r
  | 0, d, h, u, e, n => by
    obtain ⟨i, rfl, _⟩ := stand0 e
    cases n <;> simp [rb]
  | r + 1, d, h, u, e, n => by
    obtain ⟨x, y, u0, rfl, e0, _⟩ := standS e
    cases n with
    | zero => simp [rb]
    | succ n => simp only [rb]; rw [stand_rb e0 n]; omega
theorem stand_isN {r : Nat} {d : PyData} {h : Nat} {u : Stands} (e : stand r d h = some u) : isN d = false := by
  cases r with
  | zero => obtain ⟨i, rfl, _⟩ := stand0 e; rfl
  | succ r => obtain ⟨x, y, u0, rfl, _⟩ := standS e; rfl
theorem stand_uniq {r r' : Nat} {d : PyData} {h h' : Nat} {u u' : Stands} (e : stand r d h = some u) (e' : stand r' d h' = some u') : r = r' := by
  have a := stand_rb e (r + r')
  have b := stand_rb e' (r + r')
  omega
theorem metD_some {u v w : Stands} (e : metD u v = some w) : (v.1 - u.1).natAbs = 1 ∧ agr u.2.1 v.2.1 = true ∧ agr u.2.2 v.2.2 = true ∧ w = (3 * u.1 + 2 * (v.1 - u.1), fst2 u.2.1 v.2.1, fst2 u.2.2 v.2.2) := by
  unfold metD at e
  split at e
  · rename_i c
    cases e
    exact ⟨c.1, c.2.1, c.2.2, rfl⟩
  · cases e
/-- a hand's own input is known, also where the thing is taken for the other hand's -/
theorem stand_own : ∀ {r : Nat} {d : PyData}, ∃ a : Int, (∀ u, stand r d 0 = some u → u.2.1 = some a ∧ (u.2.2 = none → u.1 = 0)) ∧ (∀ v, stand r d 1 = some v → v.2.2 = some a ∧ (v.2.1 = none → v.1 = 3 ^ r)) ∧ (∀ u v, stand r d 0 = some u → stand r d 1 = some v → u.2.2 = none ∨ v.2.1 = none → u.1 = 0 ∧ v.1 = 3 ^ r)
  | 0, d => by
    by_cases q : ∃ i, d = .int i
    · obtain ⟨i, rfl⟩ := q
      refine ⟨i, fun u e => ?_, fun v e => ?_, fun u v e f _ => ?_⟩
      · obtain ⟨j, ej, _, rfl⟩ := stand0 e
        cases ej
        exact ⟨rfl, fun _ => rfl⟩
      · obtain ⟨j, ej, _, rfl⟩ := stand0 e
        cases ej
        exact ⟨rfl, fun _ => rfl⟩
      · obtain ⟨j, ej, _, rfl⟩ := stand0 e
        obtain ⟨j2, ej2, _, rfl⟩ := stand0 f
        exact ⟨rfl, rfl⟩
    · have no : ∀ h u, stand 0 d h ≠ some u := fun h u e => by
        obtain ⟨i, ei, _⟩ := stand0 e
        exact q ⟨i, ei⟩
      exact ⟨0, fun u e => absurd e (no _ _), fun u e => absurd e (no _ _), fun u v e => absurd e (no _ _)⟩
  | r + 1, d => by
    by_cases q : ∃ x y, d = .tuple [x, y]
    · obtain ⟨x, y, rfl⟩ := q
      obtain ⟨a, h0, h1, h2⟩ := stand_own (r := r) (d := x)
      obtain ⟨b, k0, k1, k2⟩ := stand_own (r := r) (d := y)
      have p3 : (3 : Int) ^ (r + 1) = 3 * 3 ^ r := by rw [Int.pow_succ]; omega
      refine ⟨a, fun u e => ?_, fun v e => ?_, fun u v e f g => ?_⟩
      · obtain ⟨x', y', u0, ed, e0, e1⟩ := standS e
        cases ed
        obtain ⟨g1, g2⟩ := h0 _ e0
        rcases e1 with ⟨_, rfl⟩ | ⟨_, v, ev, em⟩
        · exact ⟨g1, fun z => by have := g2 z; show 3 * u0.1 = 0; omega⟩
        · obtain ⟨_, _, _, rfl⟩ := metD_some em
          obtain ⟨g3, _⟩ := k1 _ ev
          refine ⟨by show fst2 u0.2.1 v.2.1 = _; rw [g1]; rfl, fun z => ?_⟩
          have z' : fst2 u0.2.2 v.2.2 = none := z
          rw [g3] at z'
          cases e9 : u0.2.2 <;> rw [e9] at z' <;> cases z'
      · obtain ⟨x', y', u0, ed, e0, e1⟩ := standS e
        cases ed
        obtain ⟨g1, g2⟩ := h1 _ e0
        rcases e1 with ⟨_, rfl⟩ | ⟨_, v', ev, em⟩
        · exact ⟨g1, fun z => by have := g2 z; show 3 * u0.1 = _; omega⟩
        · obtain ⟨_, _, _, rfl⟩ := metD_some em
          obtain ⟨g3, _⟩ := k0 _ ev
          refine ⟨by show fst2 u0.2.2 v'.2.2 = _; rw [g1]; rfl, fun z => ?_⟩
          have z' : fst2 u0.2.1 v'.2.1 = none := z
          rw [g3] at z'
          cases e9 : u0.2.1 <;> rw [e9] at z' <;> cases z'
      · obtain ⟨x', y', u0, ed, e0, e1⟩ := standS e
        cases ed
        obtain ⟨x', y', v0, ed, f0, f1⟩ := standS f
        cases ed
        rcases e1 with ⟨_, rfl⟩ | ⟨c, v', ev, em⟩
        · rcases f1 with ⟨_, rfl⟩ | ⟨c, v', ev, em⟩
          · obtain ⟨z1, z2⟩ := h2 _ _ e0 f0 g
            exact ⟨by show 3 * u0.1 = 0; omega, by show 3 * v0.1 = _; omega⟩
          · rename_i c'
            rw [c] at c'; cases c'
        · rcases f1 with ⟨c', _⟩ | ⟨_, w, fw, fm⟩
          · rw [c] at c'; cases c'
          · obtain ⟨_, _, _, rfl⟩ := metD_some em
            obtain ⟨_, _, _, rfl⟩ := metD_some fm
            obtain ⟨g3, _⟩ := k1 _ ev
            obtain ⟨g4, _⟩ := k0 _ fw
            rcases g with g | g
            · have z' : fst2 u0.2.2 v'.2.2 = none := g
              rw [g3] at z'
              cases e9 : u0.2.2 <;> rw [e9] at z' <;> cases z'
            · have z' : fst2 v0.2.1 w.2.1 = none := g
              rw [g4] at z'
              cases e9 : v0.2.1 <;> rw [e9] at z' <;> cases z'
    · have no : ∀ h u, stand (r + 1) d h ≠ some u := fun h u e => by
        obtain ⟨x, y, _, ei, _⟩ := standS e
        exact q ⟨x, y, ei⟩
      exact ⟨0, fun u e => absurd e (no _ _), fun u e => absurd e (no _ _), fun u v e => absurd e (no _ _)⟩
/-- the inputs that stand in what hand h knows, of inputs a, b -/
def inp (a b : Int) (h : Nat) (u : Stands) : Prop := (u.2.1 = some a ∨ (h = 1 ∧ u.2.1 = none)) ∧ (u.2.2 = some b ∨ (h = 0 ∧ u.2.2 = none))
def At (a b : Int) (r : Nat) (d : PyData) (h : Nat) (j : Int) : Prop := ∃ u, stand r d h = some u ∧ u.1 = j ∧ inp a b h u
theorem At.int {a b : Int} (ha : 0 ≤ a) (hb : 0 ≤ b) {h : Nat} (hh : h < 2) : At a b 0 (if h = 0 then .int a else .int b) h (if h = 0 then 0 else 1) := by
  obtain rfl | rfl : h = 0 ∨ h = 1 := by omega
  · exact ⟨(0, some a, none), by simp [stand, ha], rfl, .inl rfl, .inr ⟨rfl, rfl⟩⟩
  · exact ⟨(1, none, some b), by simp [stand, hb], rfl, .inr ⟨rfl, rfl⟩, .inl rfl⟩
theorem At.alone {a b : Int} {r : Nat} {d : PyData} {h : Nat} {j : Int} (k : At a b r d h j) : At a b (r + 1) (.tuple [d, .none]) h (3 * j) := by
  obtain ⟨u, e, rfl, i⟩ := k
  exact ⟨(3 * u.1, u.2.1, u.2.2), by simp [stand, stand1, e, isN], rfl, i⟩
theorem inp_agr {a b : Int} {h h' : Nat} {u v : Stands} (i : inp a b h u) (k : inp a b h' v) : agr u.2.1 v.2.1 = true ∧ agr u.2.2 v.2.2 = true := by
  obtain ⟨i1, i2⟩ := i
  obtain ⟨k1, k2⟩ := k
  constructor
  · rcases i1 with e | ⟨_, e⟩ <;> rcases k1 with f | ⟨_, f⟩ <;> rw [e, f] <;> simp [agr]
  · rcases i2 with e | ⟨_, e⟩ <;> rcases k2 with f | ⟨_, f⟩ <;> rw [e, f] <;> simp [agr]
theorem At.met {a b : Int} {r : Nat} {d e : PyData} {h : Nat} {i j : Int} (hh : h < 2) (k : At a b r d h j) (l : At a b r e (1 - h) i) (n : (i - j).natAbs = 1) : At a b (r + 1) (.tuple [d, e]) h (3 * j + 2 * (i - j)) := by
  obtain ⟨u, e1, rfl, i1⟩ := k
  obtain ⟨v, e2, rfl, i2⟩ := l
  obtain ⟨g1, g2⟩ := inp_agr i1 i2
  refine ⟨(3 * u.1 + 2 * (v.1 - u.1), fst2 u.2.1 v.2.1, fst2 u.2.2 v.2.2), ?_, rfl, ?_, ?_⟩
  · have en := stand_isN e2
    show stand1 _ _ _ = _
    rw [e1, e2]
    unfold stand1 metD
    rw [Option.bind_some, if_neg (by rw [en]; decide), Option.bind_some, if_pos ⟨n, g1, g2⟩]
  · rcases i1.1 with z | ⟨y, z⟩
    · left; show fst2 u.2.1 v.2.1 = _; rw [z]; rfl
    · rcases i2.1 with z2 | ⟨y2, z2⟩
      · left; show fst2 u.2.1 v.2.1 = _; rw [z, z2]; rfl
      · omega
  · rcases i1.2 with z | ⟨y, z⟩
    · left; show fst2 u.2.2 v.2.2 = _; rw [z]; rfl
    · rcases i2.2 with z2 | ⟨y2, z2⟩
      · left; show fst2 u.2.2 v.2.2 = _; rw [z, z2]; rfl
      · omega
/-! the mirror of the places -/
structure Pm where
  q : Nat → Nat → Int
  l : Nat → Nat
  n : Nat → Nat
def Pm.nxt (p : Pm) (h : Nat) : Int := if p.l h < p.n (1 - h) then 3 * p.q h (p.l h) + 2 * (p.q (1 - h) (p.l h) - p.q h (p.l h)) else 3 * p.q h (p.l h)
def Pm.step (p : Pm) (h : Nat) : Pm :=
  if p.l h < p.n h then { q := upf p.q h (upf (p.q h) (p.l h + 1) (p.nxt h)), l := upf p.l h (p.l h + 1), n := p.n }
  else { q := p.q, l := p.l, n := upf p.n h (p.n h + 1) }
def P0 : Pm := { q := fun h _ => if h = 0 then 0 else 1, l := fun _ => 0, n := fun _ => 0 }
def Pm.run (p : Pm) (hs : List Nat) : Pm := hs.foldl Pm.step p
theorem Pm.run_snoc (p : Pm) (hs : List Nat) (h : Nat) : p.run (hs ++ [h]) = (p.run hs).step h := by
  unfold Pm.run
  rw [List.foldl_append]
  rfl
structure Nb (p : Pm) : Prop where
  n1 : ∀ h < 2, p.n h = p.l h ∨ p.n h = p.l h + 1
  n3 : ∀ t, t ≤ p.l 0 → t ≤ p.l 1 → (p.q 1 t - p.q 0 t).natAbs = 1
  n4 : ∀ h < 2, ∀ t, t < p.l h → p.q h (t + 1) = 3 * p.q h t ∨ (t < p.n (1 - h) ∧ p.q h (t + 1) = p.q h t + 2 * p.q (1 - h) t)
  n5 : ∀ h < 2, ∀ t, t ≤ p.l h → p.q h t % 2 = (h : Int) ∧ 0 ≤ p.q h t ∧ p.q h t ≤ 3 ^ t
theorem Nb.zero : Nb P0 where
  n1 := fun h _ => .inl rfl
  n3 := fun t _ _ => rfl
  n4 := fun h _ t ht => absurd ht (Nat.not_lt_zero _)
  n5 := fun h hh t ht => by
    obtain rfl : t = 0 := Nat.le_zero.mp ht
    obtain rfl | rfl : h = 0 ∨ h = 1 := by omega
    · exact ⟨rfl, by decide, by decide⟩
    · exact ⟨rfl, by decide, by decide⟩
theorem Nb.near {p : Pm} (N : Nb p) {h : Nat} (hh : h < 2) {t : Nat} (h1 : t ≤ p.l h) (h2 : t ≤ p.l (1 - h)) : (p.q (1 - h) t - p.q h t).natAbs = 1 := by
  obtain rfl | rfl : h = 0 ∨ h = 1 := by omega
  · exact N.n3 t h1 h2
  · have := N.n3 t h2 h1
    show (p.q 0 t - p.q 1 t).natAbs = 1
    omega
theorem Nb.step {p : Pm} (N : Nb p) {h : Nat} (hh : h < 2) : Nb (p.step h) := by
  have ho : 1 - h < 2 := by omega
  have hne : 1 - h ≠ h := by omega
  have a1 := N.n1 h hh
  have a2 := N.n1 (1 - h) ho
  unfold Pm.step
  by_cases c : p.l h < p.n h
  · rw [if_pos c]
    have lh : upf p.l h (p.l h + 1) h = p.l h + 1 := upf_same
    have lo : ∀ i, i ≠ h → upf p.l h (p.l h + 1) i = p.l i := fun i e => upf_ne e
    have qo : ∀ i, i ≠ h → upf p.q h (upf (p.q h) (p.l h + 1) (p.nxt h)) i = p.q i := fun i e => upf_ne e
    have qh : upf p.q h (upf (p.q h) (p.l h + 1) (p.nxt h)) h = upf (p.q h) (p.l h + 1) (p.nxt h) := upf_same
    have qt : ∀ t, t ≠ p.l h + 1 → upf (p.q h) (p.l h + 1) (p.nxt h) t = p.q h t := fun t e => upf_ne e
    have qn : upf (p.q h) (p.l h + 1) (p.nxt h) (p.l h + 1) = p.nxt h := upf_same
    have near' : ∀ t, t ≤ p.l h + 1 → t ≤ p.l (1 - h) → (p.q (1 - h) t - upf (p.q h) (p.l h + 1) (p.nxt h) t).natAbs = 1 := fun t t1 t2 => by
      by_cases e : t = p.l h + 1
      · subst e
        rw [qn]
        unfold Pm.nxt
        rw [if_pos (by omega)]
        have nr := N.near hh (Nat.le_refl _) (show p.l h ≤ p.l (1 - h) by omega)
        have m4 := N.n4 (1 - h) ho (p.l h) (by omega)
        rw [show 1 - (1 - h) = h by omega] at m4
        rcases m4 with m4 | ⟨_, m4⟩
        · omega
        · omega
      · rw [qt t e]
        exact N.near hh (by omega) t2
    refine { n1 := fun i hi => ?_, n3 := fun t t0 t1 => ?_, n4 := fun i hi t ht => ?_, n5 := fun i hi t ht => ?_ }
    · show p.n i = upf p.l h (p.l h + 1) i ∨ p.n i = upf p.l h (p.l h + 1) i + 1
      by_cases e : i = h
      · subst e; rw [lh]; omega
      · rw [lo i e]; exact N.n1 i hi
    · show (upf p.q h (upf (p.q h) (p.l h + 1) (p.nxt h)) 1 t - upf p.q h (upf (p.q h) (p.l h + 1) (p.nxt h)) 0 t).natAbs = 1
      have t0' : t ≤ upf p.l h (p.l h + 1) 0 := t0
      have t1' : t ≤ upf p.l h (p.l h + 1) 1 := t1
      obtain rfl | rfl : h = 0 ∨ h = 1 := by omega
      · rw [lh] at t0'
        rw [lo 1 (by decide)] at t1'
        rw [qh, qo 1 (by decide)]
        exact near' t t0' t1'
      · rw [lh] at t1'
        rw [lo 0 (by decide)] at t0'
        rw [qh, qo 0 (by decide)]
        have := near' t t1' t0'
        show (upf (p.q 1) (p.l 1 + 1) (p.nxt 1) t - p.q 0 t).natAbs = 1
        have z : (p.q 0 t - upf (p.q 1) (p.l 1 + 1) (p.nxt 1) t).natAbs = 1 := this
        omega
    · have ht' : t < upf p.l h (p.l h + 1) i := ht
      show upf p.q h (upf (p.q h) (p.l h + 1) (p.nxt h)) i (t + 1) = 3 * upf p.q h (upf (p.q h) (p.l h + 1) (p.nxt h)) i t ∨ (t < p.n (1 - i) ∧ upf p.q h (upf (p.q h) (p.l h + 1) (p.nxt h)) i (t + 1) = upf p.q h (upf (p.q h) (p.l h + 1) (p.nxt h)) i t + 2 * upf p.q h (upf (p.q h) (p.l h + 1) (p.nxt h)) (1 - i) t)
      by_cases e : i = h
      · subst e
        rw [lh] at ht'
        rw [qh, qo (1 - i) hne, qt t (by omega)]
        by_cases et : t = p.l i
        · subst et
          rw [qn]
          unfold Pm.nxt
          by_cases c2 : p.l i < p.n (1 - i)
          · rw [if_pos c2]; right; exact ⟨c2, by omega⟩
          · rw [if_neg c2]; left; rfl
        · rw [qt (t + 1) (by omega)]
          exact N.n4 i hi t (by omega)
      · rw [lo i e] at ht'
        have e1 : 1 - i = h := by omega
        rw [qo i e, e1, qh]
        have m4 := N.n4 i hi t ht'
        rw [e1] at m4
        rcases m4 with m4 | ⟨m5, m4⟩
        · exact .inl m4
        · right
          refine ⟨m5, ?_⟩
          rw [qt t (by omega)]
          exact m4
    · have ht' : t ≤ upf p.l h (p.l h + 1) i := ht
      show upf p.q h (upf (p.q h) (p.l h + 1) (p.nxt h)) i t % 2 = (i : Int) ∧ 0 ≤ upf p.q h (upf (p.q h) (p.l h + 1) (p.nxt h)) i t ∧ upf p.q h (upf (p.q h) (p.l h + 1) (p.nxt h)) i t ≤ 3 ^ t
      by_cases e : i = h
      · subst e
        rw [lh] at ht'
        rw [qh]
        by_cases et : t = p.l i + 1
        · subst et
          rw [qn]
          obtain ⟨b1, b2, b3⟩ := N.n5 i hi (p.l i) (Nat.le_refl _)
          have p3 : (3 : Int) ^ (p.l i + 1) = 3 * 3 ^ p.l i := by rw [Int.pow_succ]; omega
          unfold Pm.nxt
          by_cases c2 : p.l i < p.n (1 - i)
          · rw [if_pos c2]
            obtain ⟨d1, d2, d3⟩ := N.n5 (1 - i) ho (p.l i) (by omega)
            refine ⟨by omega, by omega, by omega⟩
          · rw [if_neg c2]
            refine ⟨by omega, by omega, by omega⟩
        · rw [qt t et]
          exact N.n5 i hi t (by omega)
      · rw [lo i e] at ht'
        rw [qo i e]
        exact N.n5 i hi t ht'
  · rw [if_neg c]
    refine { n1 := fun i hi => ?_, n3 := N.n3, n4 := fun i hi t ht => ?_, n5 := N.n5 }
    · show upf p.n h (p.n h + 1) i = p.l i ∨ upf p.n h (p.n h + 1) i = p.l i + 1
      by_cases e : i = h
      · subst e; rw [upf_same]; omega
      · rw [upf_ne e]; exact N.n1 i hi
    · show p.q i (t + 1) = 3 * p.q i t ∨ (t < upf p.n h (p.n h + 1) (1 - i) ∧ p.q i (t + 1) = p.q i t + 2 * p.q (1 - i) t)
      rcases N.n4 i hi t ht with m | ⟨m1, m2⟩
      · exact .inl m
      · right
        refine ⟨?_, m2⟩
        by_cases e : 1 - i = h
        · rw [e] at m1 ⊢; rw [upf_same]; omega
        · rw [upf_ne e]; exact m1
/-- what is known and where it stands -/
structure Rel (a b : Int) (m : M) (p : Pm) : Prop where
  l : ∀ h < 2, m.l h = p.l h
  n : ∀ h < 2, (m.c h).length = p.n h
  c : ∀ h < 2, ∀ t, t < p.n h → At a b t ((m.c h).getD t .none) h (p.q h t)
  k : ∀ h < 2, At a b (p.l h) (m.k h) h (p.q h (p.l h))
theorem Rel.zero {a b : Int} (ha : 0 ≤ a) (hb : 0 ≤ b) : Rel a b (M0 a b) P0 where
  l := fun h _ => rfl
  n := fun h _ => rfl
  c := fun h _ t ht => absurd ht (Nat.not_lt_zero _)
  k := fun h hh => At.int ha hb hh
theorem Rel.step {a b : Int} {m : M} {p : Pm} (R : Rel a b m p) (N : Nb p) {h : Nat} (hh : h < 2) : Rel a b (m.step h) (p.step h) := by
  have ho : 1 - h < 2 := by omega
  have hne : 1 - h ≠ h := by omega
  have a1 := N.n1 h hh
  have a2 := N.n1 (1 - h) ho
  have rl := R.l h hh
  have rn := R.n h hh
  have rno := R.n (1 - h) ho
  unfold Pm.step M.step
  by_cases c : p.l h < p.n h
  · rw [if_pos c, if_pos (show m.l h < (m.c h).length by omega)]
    have qo : ∀ i, i ≠ h → upf p.q h (upf (p.q h) (p.l h + 1) (p.nxt h)) i = p.q i := fun i e => upf_ne e
    have qh : upf p.q h (upf (p.q h) (p.l h + 1) (p.nxt h)) h = upf (p.q h) (p.l h + 1) (p.nxt h) := upf_same
    have qt : ∀ t, t ≠ p.l h + 1 → upf (p.q h) (p.l h + 1) (p.nxt h) t = p.q h t := fun t e => upf_ne e
    have qn : upf (p.q h) (p.l h + 1) (p.nxt h) (p.l h + 1) = p.nxt h := upf_same
    refine { l := fun i hi => ?_, n := R.n, c := fun i hi t ht => ?_, k := fun i hi => ?_ }
    · show upf m.l h (m.l h + 1) i = upf p.l h (p.l h + 1) i
      by_cases e : i = h
      · subst e; rw [upf_same, upf_same]; omega
      · rw [upf_ne e, upf_ne e]; exact R.l i hi
    · show At a b t ((m.c i).getD t .none) i (upf p.q h (upf (p.q h) (p.l h + 1) (p.nxt h)) i t)
      have old := R.c i hi t ht
      by_cases e : i = h
      · subst e
        have ht' : t < p.n i := ht
        rw [qh, qt t (by omega)]
        exact old
      · rw [qo i e]; exact old
    · show At a b (upf p.l h (p.l h + 1) i) (upf m.k h _ i) i (upf p.q h (upf (p.q h) (p.l h + 1) (p.nxt h)) i (upf p.l h (p.l h + 1) i))
      by_cases e : i = h
      · subst e
        rw [upf_same, upf_same, qh, qn, rl]
        unfold Pm.nxt
        have mine := R.k i hi
        by_cases c2 : p.l i < p.n (1 - i)
        · rw [if_pos c2]
          exact At.met hi mine (R.c (1 - i) ho (p.l i) c2) (N.near hi (Nat.le_refl _) (by omega))
        · rw [if_neg c2, List.getD_eq_getElem?_getD, List.getElem?_eq_none (by omega)]
          exact mine.alone
      · rw [upf_ne e, upf_ne e, qo i e]
        exact R.k i hi
  · rw [if_neg c, if_neg (show ¬ m.l h < (m.c h).length by omega)]
    refine { l := R.l, n := fun i hi => ?_, c := fun i hi t ht => ?_, k := R.k }
    · show (upf m.c h (m.c h ++ [m.k h]) i).length = upf p.n h (p.n h + 1) i
      by_cases e : i = h
      · subst e; rw [upf_same, upf_same, List.length_append, rn]; rfl
      · rw [upf_ne e, upf_ne e]; exact R.n i hi
    · show At a b t ((upf m.c h (m.c h ++ [m.k h]) i).getD t .none) i (p.q i t)
      have ht' : t < upf p.n h (p.n h + 1) i := ht
      by_cases e : i = h
      · subst e
        rw [upf_same] at ht' ⊢
        by_cases et : t < p.n i
        · rw [List.getD_eq_getElem?_getD, List.getElem?_append_left (by omega), ← List.getD_eq_getElem?_getD]
          exact R.c i hi t et
        · have eq1 : t = p.l i := by omega
          rw [List.getD_eq_getElem?_getD, List.getElem?_append_right (by omega), rn, show t - p.n i = 0 by omega]
          rw [eq1]
          exact R.k i hi
      · rw [upf_ne e] at ht' ⊢
        exact R.c i hi t ht'
theorem run_both {a b : Int} (ha : 0 ≤ a) (hb : 0 ≤ b) : ∀ {hs : List Nat} {m : M} {p : Pm}, (∀ h ∈ hs, h < 2) → Rel a b m p → Nb p → Rel a b (m.run hs) (p.run hs) ∧ Nb (p.run hs)
  | [], m, p, _, R, N => ⟨R, N⟩
  | h :: r, m, p, q, R, N => run_both ha hb (hs := r) (m := m.step h) (p := p.step h) (fun x hx => q x (List.mem_cons_of_mem _ hx)) (R.step N (q h List.mem_cons_self)) (N.step (q h List.mem_cons_self))
def Pm.done (p : Pm) (h : Nat) : Nat := p.l h + p.n h
end TA

set_option Elab.async false
set_option maxRecDepth 100000
set_option maxHeartbeats 4000000
namespace TA
open PySem L2 PyProof.Rows
set_option linter.unusedVariables false
def isI : PyData → Bool
  | .int _ => true
  | _ => false
def isT : PyData → Bool
  | .tuple _ => true
  | _ => false
def ov : Option Int → V
  | none => .non
  | some i => .int i
def stV (u : Stands) : List V := [.int u.1, ov u.2.1, ov u.2.2]
def spWholeK : Sp := fun vs H Q _ => ∃ (v : V) (d : PyData), vs = [v] ∧ Kn H v d ∧ Q (.bl (isI d)) H
def spRb : Sp := fun vs H Q _ => ∃ (v : V) (d : PyData), vs = [v] ∧ Kn H v d ∧ Q (.int (rb 5 d : Nat)) H
def spAgr : Sp := fun vs H Q _ => ∃ a b : Option Int, vs = [ov a, ov b] ∧ Q (.bl (agr a b)) H
def spMet : Sp := fun vs H Q _ => ∃ (p q : Addr) (u v : Stands), vs = [.ref p, .ref q] ∧ H p = some (.tup (stV u)) ∧ H q = some (.tup (stV v)) ∧ (metD u v = none → Q .non H) ∧ ∀ w, metD u v = some w → ∀ (o : Addr) (H' : Hp), Same H H' → H' o = some (.tup (stV w)) → Q (.ref o) H'
def spStand (r : Nat) : Sp := fun vs H Q _ => ∃ (v : V) (d : PyData) (h : Nat), vs = [v, .int (h : Int), .int (r : Int)] ∧ Kn H v d ∧ h < 2 ∧ (stand r d h = none → ∀ H', Same H H' → Q .non H') ∧ ∀ u, stand r d h = some u → ∀ (o : Addr) (H' : Hp), Same H H' → H' o = some (.tup (stV u)) → Q (.ref o) H'
theorem Kn.ty {K : PySem.W.Frag} {H : Hp} {v : V} {d : PyData} (h : Kn H v d) : (∃ i, v = .int i ∧ d = .int i) ∨ (v = .non ∧ d = .none) ∨ ∃ a x y e f, v = .ref a ∧ d = .tuple [e, f] ∧ H a = some (.tup [x, y]) ∧ Kn H x e ∧ Kn H y f := by
  cases h with
  | int i => exact .inl ⟨i, rfl, rfl⟩
  | non => exact .inr (.inl ⟨rfl, rfl⟩)
  | tup h a b => exact .inr (.inr ⟨_, _, _, _, _, rfl, rfl, h, a, b⟩)
section
variable {P : Program} {w : World} {K : PySem.W.Frag} {mg : Str → Option Value} {base : Heap}
theorem ok_wholeK {f : Addr} {fd : FuncData} (F : Fun K "is_whole" "is_whole" sWhole f fd) (T : Txt K mg) : FnOk P w K mg base CX0 1 f fd ["thing"] spWholeK := by
  refine F.ok scWhole (fun vs H Q E h => ?_) (fun cdv A outer s H vs Q E hr h => ?_)
  · obtain ⟨v, d, rfl, _⟩ := h
    rfl
  obtain ⟨v, d, rfl, hk, q⟩ := h
  refine ⟨_, pss_one (ps_ret (pe_and (pe_callB call_isi (by rfl) T.isi boot_isinstance (pa_cons (pv 0) (pa_cons (pe_bltn (v := .ty "int") (by rfl) T.int boot_int rfl) pa_nil)))
    (pe_one (pe_not (pe_callB call_isi (by rfl) T.isi boot_isinstance (pa_cons (pv 0) (pa_cons (pe_bltn (v := .ty "bool") (by rfl) T.bool boot_bool rfl) pa_nil))))))), ?_⟩
  rcases hk.ty (K := K) with ⟨i, rfl, rfl⟩ | ⟨rfl, rfl⟩ | ⟨a, x, y, e, g, rfl, rfl, ha, _, _⟩
  · refine ⟨_, rfl, V.int i, V.ty "int", _, _, true, rfl, .ty "int", .base (.int i), kit_ty (by decide +kernel), true, rfl, iteT ?_⟩
    exact ⟨_, rfl, V.int i, V.ty "bool", _, _, false, rfl, .ty "bool", .base (.int i), kit_ty (by decide +kernel), false, rfl, q⟩
  · exact ⟨_, rfl, V.non, V.ty "int", _, _, false, rfl, .ty "int", .base .non, kit_ty (by decide +kernel), false, rfl, iteF q⟩
  · exact ⟨_, rfl, V.ref a, V.ty "int", _, _, false, rfl, .ty "int", .base (.tup ha), kit_ty (by decide +kernel), false, rfl, iteF q⟩
theorem scRb : FnScope ["thing", "rounds"] ["thing"] (defScope s_rounds_behind) := ⟨rfl, rfl, rfl, by decide +kernel, rfl, by decide +kernel, by decide +kernel⟩
theorem ok_rb {f : Addr} {fd : FuncData} (F : Fun K "rounds_behind" "rounds_behind" s_rounds_behind f fd) (T : Txt K mg) (U : Txt2 K mg) : FnOk P w K mg base CX0 1 f fd ["thing"] spRb := by
  refine F.ok scRb (fun vs H Q E h => ?_) (fun cdv A outer s H vs Q E hr h => ?_)
  · obtain ⟨v, d, rfl, _⟩ := h
    rfl
  obtain ⟨v, d, rfl, hk, q⟩ := h
  obtain ⟨t5, m5⟩ := U.five
  have nd := scRb.nd
  refine ⟨_, pss_cons (ps_set (i := 1) nd rfl (Or.inl rfl) pe_int)
    (pss_cons (ps_while PassesOwn.never (PW.pt (pw_and (pt_cmpR op_lt (pv 1) (pe_glob (v := .int 5) rfl m5 ⟨_, rfl⟩) (nomark _)) (pw_and (pt_val (pe_callB call_isi (by rfl) T.isi boot_isinstance (pa_cons (pv 0) (pa_cons (pe_bltn (v := .ty "tuple") (by rfl) T.tuple boot_tuple rfl) pa_nil)))) (pw_and1 (pt_cmpR op_eq (pe_callB call_len_seq (by rfl) T.len PySem.boot_len (pa_cons (pv 0) pa_nil)) pe_int (nomark _))))))
      (pss_cons (ps_set (i := 0) nd rfl (Or.inl rfl) (pe_ix ix_tup (pv 0) pe_int (fun _ _ => rfl)))
      (pss_one (ps_aug (i := 1) nd rfl (Or.inl rfl) pe_int ip_add))))
    (pss_one (ps_ret (pv 1)))), ?_⟩
  refine ⟨fun m σ H' => ∃ (k : Nat) (v' : V) (d' : PyData), σ = [some v', some (.int (k : Int))] ∧ H' = H ∧ Kn H v' d' ∧ m + k = 5 ∧ rb 5 d = k + rb m d', ⟨5, 0, v, d, rfl, rfl, hk, rfl, (Nat.zero_add _).symm⟩, ?_⟩
  rintro m σ H' ⟨k, v', d', rfl, rfl, hk', hm, he⟩
  refine ⟨_, rfl, _, _, rfl, rfl, _, rfl, ?_⟩
  by_cases c : k < 5
  · rw [decide_eq_true (show ((k : Nat) : Int) < 5 by omega)]
    refine iteT ?_
    obtain ⟨m', rfl⟩ : ∃ m', m = m' + 1 := ⟨m - 1, by omega⟩
    rcases hk'.ty (K := K) with ⟨i, rfl, rfl⟩ | ⟨rfl, rfl⟩ | ⟨a, x, y, e, g, rfl, rfl, ha, hx, hy⟩
    · refine ⟨_, rfl, V.int i, V.ty "tuple", _, _, false, rfl, .ty "tuple", .base (.int i), kit_ty (by decide +kernel), false, rfl, iteF (iteF ?_)⟩
      refine ⟨_, rfl, ?_⟩
      rw [show rb 5 d = k from by rw [he]; simp [rb]] at q
      exact q
    · refine ⟨_, rfl, V.non, V.ty "tuple", _, _, false, rfl, .ty "tuple", .base .non, kit_ty (by decide +kernel), false, rfl, iteF (iteF ?_)⟩
      refine ⟨_, rfl, ?_⟩
      rw [show rb 5 d = k from by rw [he]; simp [rb]] at q
      exact q
    · refine ⟨_, rfl, V.ref a, V.ty "tuple", _, _, true, rfl, .ty "tuple", .base (.tup ha), kit_ty (by decide +kernel), true, rfl, iteT ?_⟩
      refine ⟨_, rfl, a, _, rfl, .inr (SqT.of ha), rfl, _, rfl, iteT ?_⟩
      refine ⟨fun σ' H'' => ∃ m'' < m' + 1, ∃ (k : Nat) (v' : V) (d' : PyData), σ' = [some v', some (.int (k : Int))] ∧ H'' = H' ∧ Kn H' v' d' ∧ m'' + k = 5 ∧ rb 5 d = k + rb m'' d', fun σ' H'' h => h, ?_⟩
      refine ⟨_, rfl, a, _, _, _, rfl, rfl, SqT.of ha, (by rfl), ?_⟩
      refine ⟨_, rfl, _, _, rfl, rfl, m', Nat.lt_succ_self _, k + 1, x, e, rfl, rfl, hx, by omega, ?_⟩
      rw [he]
      simp only [rb]
      omega
  · rw [decide_eq_false (show ¬ ((k : Nat) : Int) < 5 by omega)]
    refine iteF (iteF ?_)
    refine ⟨_, rfl, ?_⟩
    obtain rfl : m = 0 := by omega
    rw [show rb 5 d = k from by rw [he]; simp [rb]] at q
    exact q
theorem scAgr : FnScope ["one", "other"] ["one", "other"] (defScope s_agrees) := ⟨rfl, rfl, rfl, by decide +kernel, rfl, by decide +kernel, by decide +kernel⟩
theorem ok_agr {f : Addr} {fd : FuncData} (F : Fun K "agrees" "agrees" s_agrees f fd) : FnOk P w K mg base CX0 1 f fd ["one", "other"] spAgr := by
  refine F.ok scAgr (fun vs H Q E h => ?_) (fun cdv A outer s H vs Q E hr h => ?_)
  · obtain ⟨a, b, rfl, _⟩ := h
    rfl
  obtain ⟨a, b, rfl, q⟩ := h
  refine ⟨_, pss_one (ps_ret (pe_or (pe_cmpR op_isN (pv 0) pe_non (nomark _)) (pe_or (pe_cmpR op_isN (pv 1) pe_non (nomark _)) (pe_one (pe_cmpR op_eq (pv 0) (pv 1) (nomark _)))))), ?_⟩
  refine ⟨_, rfl, rfl, _, rfl, ?_⟩
  cases a with
  | none => exact iteT q
  | some i =>
    refine iteF ⟨_, rfl, rfl, _, rfl, ?_⟩
    cases b with
    | none => exact iteT q
    | some j =>
      refine iteF ⟨_, rfl, _, rfl, rfl, ?_⟩
      have e : decide (V.int i = V.int j) = agr (some i) (some j) := by
        show decide (V.int i = V.int j) = decide (i = j)
        by_cases c : i = j
        · subst c; simp
        · rw [decide_eq_false (show ¬ i = j from c), decide_eq_false (fun z => c (by injection z))]
      show Q (.bl (decide (V.int i = V.int j))) H
      rw [e]
      exact q
end
end TA

set_option Elab.async false
set_option maxRecDepth 100000
set_option maxHeartbeats 4000000
namespace TA
open PySem L2 PyProof.Rows
set_option linter.unusedVariables false
structure RaiseC (K : PySem.W.Frag) (mg : Str → Option Value) (n : Str) (C : Addr) : Prop where
  m : mg n = some (.ref C)
  x : PySem.W.excIn K C [.type "ValueError", .type "Exception", .type "BaseException", .type "object"] "ValueError.__new__" = true
  k : PySem.W.keepIn K (.ref C) = true
  b : PySem.W.subIn K (.ref C) (.type "BaseException") = some true
  t : PySem.W.typeIn K (.ref C) = some (.type "type")
/-- a hand that is one: what it knows, its place, or the refusal -/
def spPlace (cN : Addr) : Sp := fun vs H Q E => ∃ (v : V) (d : PyData) (h : Nat), vs = [v, .int (h : Int)] ∧ Kn H v d ∧ h < 2 ∧ (placeD d h = none → ∀ H', Same H H' → E (.ref cN) none H') ∧ ∀ j, placeD d h = some j → ∀ H', Same H H' → Q (.int j) H'
theorem fst2_ov (a b : Option Int) : ov (fst2 a b) = if a = none then ov b else ov a := by
  cases a <;> rfl
section
variable {P : Program} {w : World} {K : PySem.W.Frag} {mg : Str → Option Value} {base : Heap}
theorem stV_at0 (u : Stands) : atI (stV u) 0 = some (.int u.1) := rfl
theorem stV_at1 (u : Stands) : atI (stV u) 1 = some (ov u.2.1) := rfl
theorem stV_at2 (u : Stands) : atI (stV u) 2 = some (ov u.2.2) := rfl
abbrev nMet : List Str := ["own", "other", "at", "own0", "own1", "seen_at", "other0", "other1"]
theorem scMet : FnScope nMet ["own", "other"] (defScope s_met) := ⟨rfl, rfl, rfl, by decide +kernel, rfl, by decide +kernel, by decide +kernel⟩
theorem ok_met {f g : Addr} {fd gd : FuncData} (F : Fun K "met" "met" s_met f fd) (mA : mg "abs" = none) (A1 : Def P w K mg base "agrees" ["one", "other"] 1 spAgr g gd) : FnOk P w K mg base CX0 2 f fd ["own", "other"] spMet := by
  refine F.ok scMet (fun vs H Q E h => ?_) (fun cdv A outer s H vs Q E hr h => ?_)
  · obtain ⟨p, q, u, v, rfl, _⟩ := h
    rfl
  obtain ⟨p, q, u, v, rfl, hp, hq, q0, q1⟩ := h
  have nd := scMet.nd
  refine ⟨_, pss_cons (ps_asg (pv 0) (pg_tup (by rfl) (pgs_cons (pg_name (i := 2) nd rfl (Or.inl rfl)) (pgs_cons (pg_name (i := 3) nd rfl (Or.inl rfl)) (pgs_cons (pg_name (i := 4) nd rfl (Or.inl rfl)) pgs_nil)))))
    (pss_cons (ps_asg (pv 1) (pg_tup (by rfl) (pgs_cons (pg_name (i := 5) nd rfl (Or.inl rfl)) (pgs_cons (pg_name (i := 6) nd rfl (Or.inl rfl)) (pgs_cons (pg_name (i := 7) nd rfl (Or.inl rfl)) pgs_nil)))))
    (pss_cons (ps_if (PW.pt (pw_or (pt_cmpR op_ne (pe_callB call_abs (by rfl) mA (by decide +kernel) (pa_cons (pe_op op_sub (pv 2) (pv 5)) pa_nil)) pe_int (nomark _)) (pw_or (pt_not (pt_val (pe_call A1.G hr rfl A1.m A1.k A1.b .nil pass0 (pa_cons (pv 3) (pa_cons (pv 6) pa_nil))))) (pw_or1 (pt_not (pt_val (pe_call A1.G hr rfl A1.m A1.k A1.b .nil pass0 (pa_cons (pv 4) (pa_cons (pv 7) pa_nil)))))))) ) (pss_one (ps_ret pe_non)) pss_nil)
    (pss_one (ps_ret (pe_tup (pa_cons (pe_op op_add (pe_op op_mul pe_int (pv 2)) (pe_op op_mul pe_int (pe_op op_sub (pv 5) (pv 2)))) (pa_cons (pe_ifExp (pt_cmpR op_isN (pv 3) pe_non (nomark _)) (pv 6) (pv 3)) (pa_cons (pe_ifExp (pt_cmpR op_isN (pv 4) pe_non (nomark _)) (pv 7) (pv 4)) pa_nil)))))))), ?_⟩
  refine ⟨_, rfl, p, _, rfl, SqT.of hp, rfl, _, _, rfl, _, _, rfl, _, _, rfl, rfl, ?_⟩
  refine ⟨_, rfl, q, _, rfl, SqT.of hq, rfl, _, _, rfl, _, _, rfl, _, _, rfl, rfl, ?_⟩
  refine ⟨_, rfl, _, rfl, _, _, rfl, rfl, _, rfl, rfl, _, rfl, ?_⟩
  have habs : (if u.1 - v.1 < 0 then -(u.1 - v.1) else u.1 - v.1) = (((v.1 - u.1).natAbs : Nat) : Int) := by split <;> omega
  rw [habs]
  by_cases c1 : (v.1 - u.1).natAbs = 1
  case neg =>
    have e1 : (!decide (V.int (((v.1 - u.1).natAbs : Nat) : Int) = V.int 1)) = true := by
      rw [decide_eq_false (fun e => c1 (by injection e with e; omega))]; rfl
    rw [e1]
    refine iteT (iteT ?_)
    exact q0 (by unfold metD; rw [if_neg (fun z => c1 z.1)])
  have e1 : (!decide (V.int (((v.1 - u.1).natAbs : Nat) : Int) = V.int 1)) = false := by
    rw [decide_eq_true (by rw [c1]; rfl)]; rfl
  rw [e1]
  refine iteF ?_
  refine ⟨_, rfl, _, rfl, u.2.1, v.2.1, rfl, agr u.2.1 v.2.1, rfl, ?_⟩
  by_cases c2 : agr u.2.1 v.2.1 = true
  case neg =>
    rw [Bool.eq_false_iff.mpr c2]
    refine iteT (iteT ?_)
    exact q0 (by unfold metD; rw [if_neg (fun z => c2 z.2.1)])
  rw [c2]
  refine iteF ?_
  refine ⟨_, rfl, _, rfl, u.2.2, v.2.2, rfl, agr u.2.2 v.2.2, rfl, ?_⟩
  by_cases c3 : agr u.2.2 v.2.2 = true
  case neg =>
    rw [Bool.eq_false_iff.mpr c3]
    refine iteT ?_
    exact q0 (by unfold metD; rw [if_neg (fun z => c3 z.2.2)])
  rw [c3]
  refine iteF ?_
  refine ⟨_, rfl, _, _, rfl, rfl, .inl ⟨by decide, by decide⟩, _, rfl, _, rfl, _, _, rfl, rfl, _, _, rfl, rfl, .inl ⟨by decide, by decide⟩, _, _, rfl, rfl, ?_⟩
  have fin : ∀ x y : V, x = ov (fst2 u.2.1 v.2.1) → y = ov (fst2 u.2.2 v.2.2) → 3 ≤ sizeLine ∧ ∀ t, H t = none → Q (.ref t) (upd H t (.tup [.int (3 * u.1 + 2 * (v.1 - u.1)), x, y])) := fun x y ex ey =>
    ⟨by decide, fun t ht => q1 _ (by unfold metD; rw [if_pos ⟨c1, c2, c3⟩]) t _ (same_new ht _) (by rw [upd_same, ex, ey]; rfl)⟩
  refine ⟨_, rfl, rfl, _, rfl, ?_⟩
  cases o1 : u.2.1 with
  | none =>
    refine iteT ⟨_, rfl, ?_⟩
    refine ⟨_, rfl, rfl, _, rfl, ?_⟩
    cases o2 : u.2.2 with
    | none => exact iteT ⟨_, rfl, fin _ _ (by rw [o1]; rfl) (by rw [o2]; rfl)⟩
    | some i => exact iteF ⟨_, rfl, fin _ _ (by rw [o1]; rfl) (by rw [o2]; rfl)⟩
  | some i =>
    refine iteF ⟨_, rfl, ?_⟩
    refine ⟨_, rfl, rfl, _, rfl, ?_⟩
    cases o2 : u.2.2 with
    | none => exact iteT ⟨_, rfl, fin _ _ (by rw [o1]; rfl) (by rw [o2]; rfl)⟩
    | some i => exact iteF ⟨_, rfl, fin _ _ (by rw [o1]; rfl) (by rw [o2]; rfl)⟩
abbrev nStand : List Str := ["thing", "hand", "rounds", "own", "other"]
theorem scStand : FnScope nStand ["thing", "hand", "rounds"] (defScope s_standing) := ⟨rfl, rfl, rfl, by decide +kernel, rfl, by decide +kernel, by decide +kernel⟩
theorem ok_stand {f g1 g2 : Addr} {fd d1 d2 : FuncData} (F : Fun K "standing" "standing" s_standing f fd) (T : Txt K mg) (W : Def P w K mg base "is_whole" ["thing"] 1 spWholeK g1 d1) (M1 : Def P w K mg base "met" ["own", "other"] 2 spMet g2 d2) (bF : Binds K fd ["thing", "hand", "rounds"] []) (kF : PySem.W.keepIn K (.ref f) = true) (mF : mg "standing" = some (.ref f)) :
    ∀ r, FnOk P w K mg base CX0 (3 + r) f fd ["thing", "hand", "rounds"] (spStand r)
  | 0 => by
    refine F.ok scStand (fun vs H Q E h => ?_) (fun cdv A outer s H vs Q E hr h => ?_)
    · obtain ⟨v, d, h, rfl, _⟩ := h
      rfl
    obtain ⟨v, d, h, rfl, hk, hh, q0, q1⟩ := h
    have nd := scStand.nd
    refine ⟨_, pss_cons (ps_if (pt_cmpR op_eq (pv 2) pe_int (nomark _))
        (pss_cons (ps_if (PW.pt (pw_or (pt_not (pt_val (pe_call W.G (hr.mono (by decide)) rfl W.m W.k W.b .nil pass0 (pa_cons (pv 0) pa_nil)))) (pw_or1 (pt_cmpR op_lt (pv 0) pe_int (nomark _))))) (pss_one (ps_ret pe_non)) pss_nil)
        (pss_one (ps_ret (pe_ifExp (pt_cmpR op_eq (pv 1) pe_int (nomark _)) (pe_tup (pa_cons pe_int (pa_cons (pv 0) (pa_cons pe_non pa_nil)))) (pe_tup (pa_cons pe_int (pa_cons pe_non (pa_cons (pv 0) pa_nil)))))))) pss_nil)
      pss_never, ?_⟩
    refine ⟨_, rfl, rfl, _, rfl, ?_⟩
    refine iteT ?_
    refine ⟨_, rfl, v, d, rfl, hk, isI d, rfl, ?_⟩
    rcases hk.ty (K := K) with ⟨i, rfl, rfl⟩ | ⟨rfl, rfl⟩ | ⟨a, x, y, e, g, rfl, rfl, ha, hx, hy⟩
    · refine iteF ⟨_, rfl, _, _, rfl, rfl, _, rfl, ?_⟩
      refine ite2 (fun c => ?_) (fun c => ?_)
      · have c' : i < 0 := of_decide_eq_true c
        exact q0 (by simp [stand]; omega) _ (Same.refl H)
      · have c' : ¬ i < 0 := of_decide_eq_false (Bool.eq_false_iff.mpr c)
        have e0 : stand 0 (.int i) h = some (if h = 0 then (0, some i, none) else (1, none, some i)) := by simp [stand]; omega
        refine ⟨_, rfl, rfl, _, rfl, ?_⟩
        obtain rfl | rfl : h = 0 ∨ h = 1 := by omega
        · refine iteT ⟨_, rfl, (by show 3 ≤ sizeLine; decide), fun t ht => q1 _ e0 t _ (same_new ht _) (by rw [upd_same]; rfl)⟩
        · refine iteF ⟨_, rfl, (by show 3 ≤ sizeLine; decide), fun t ht => q1 _ e0 t _ (same_new ht _) (by rw [upd_same]; rfl)⟩
    · exact iteT (iteT (q0 rfl _ (Same.refl H)))
    · exact iteT (iteT (q0 rfl _ (Same.refl H)))
  | r + 1 => by
    have ih := ok_stand F T W M1 bF kF mF r
    refine F.ok (k := 3 + r) scStand (fun vs H Q E h => ?_) (fun cdv A outer s H vs Q E hr h => ?_)
    · obtain ⟨v, d, h, rfl, _⟩ := h
      rfl
    obtain ⟨v, d, h, rfl, hk, hh, q0, q1⟩ := h
    have nd := scStand.nd
    refine ⟨_, pss_cons (ps_if (pt_cmpR op_eq (pv 2) pe_int (nomark _)) pss_never pss_nil)
      (pss_cons (ps_if (PW.pt (pw_or (pt_not (pt_val (pe_callB call_isi (by rfl) T.isi boot_isinstance (pa_cons (pv 0) (pa_cons (pe_bltn (v := .ty "tuple") (by rfl) T.tuple boot_tuple rfl) pa_nil))))) (pw_or1 (pt_cmpR op_ne (pe_callB call_len_seq (by rfl) T.len PySem.boot_len (pa_cons (pv 0) pa_nil)) pe_int (nomark _))))) (pss_one (ps_ret pe_non)) pss_nil)
      (pss_cons (ps_set (i := 3) nd rfl (Or.inl rfl) (pe_call ih hr rfl mF kF bF .nil pass0 (pa_cons (pe_ix ix_tup (pv 0) pe_int (fun _ _ => rfl)) (pa_cons (pv 1) (pa_cons (pe_op op_sub (pv 2) pe_int) pa_nil)))))
      (pss_cons (ps_if (pt_cmpR op_isN (pv 3) pe_non (nomark _)) (pss_one (ps_ret pe_non)) pss_nil)
      (pss_cons (ps_if (pt_cmpR op_isN (pe_ix ix_tup (pv 0) pe_int (fun _ _ => rfl)) pe_non (nomark _)) (pss_one (ps_ret (pe_tup (pa_cons (pe_op op_mul pe_int (pe_ix ix_tup (pv 3) pe_int (fun _ _ => rfl))) (pa_cons (pe_ix ix_tup (pv 3) pe_int (fun _ _ => rfl)) (pa_cons (pe_ix ix_tup (pv 3) pe_int (fun _ _ => rfl)) pa_nil)))))) pss_nil)
      (pss_cons (ps_set (i := 4) nd rfl (Or.inl rfl) (pe_call ih hr rfl mF kF bF .nil pass0 (pa_cons (pe_ix ix_tup (pv 0) pe_int (fun _ _ => rfl)) (pa_cons (pe_op op_sub pe_int (pv 1)) (pa_cons (pe_op op_sub (pv 2) pe_int) pa_nil)))))
      (pss_one (ps_ret (pe_ifExp (pt_cmpR op_isN (pv 4) pe_non (nomark _)) pe_non (pe_call M1.G (hr.mono (by omega)) rfl M1.m M1.k M1.b .nil pass0 (pa_cons (pv 3) (pa_cons (pv 4) pa_nil)))))))))))
, ?_⟩
    refine ⟨_, rfl, rfl, _, rfl, ?_⟩
    have e0 : decide (V.int ((r + 1 : Nat) : Int) = V.int 0) = false := decide_eq_false (fun e => by injection e with e; omega)
    rw [e0]
    refine iteF ?_
    rcases hk.ty (K := K) with ⟨i, rfl, rfl⟩ | ⟨rfl, rfl⟩ | ⟨a, x, y, e, g, rfl, rfl, ha, hx, hy⟩
    · refine ⟨_, rfl, V.int i, V.ty "tuple", _, _, false, rfl, .ty "tuple", .base (.int i), kit_ty (by decide +kernel), false, rfl, iteT (iteT ?_)⟩
      exact q0 rfl _ (Same.refl H)
    · refine ⟨_, rfl, V.non, V.ty "tuple", _, _, false, rfl, .ty "tuple", .base .non, kit_ty (by decide +kernel), false, rfl, iteT (iteT ?_)⟩
      exact q0 rfl _ (Same.refl H)
    · refine ⟨_, rfl, V.ref a, V.ty "tuple", _, _, true, rfl, .ty "tuple", .base (.tup ha), kit_ty (by decide +kernel), true, rfl, iteF ?_⟩
      refine ⟨_, rfl, a, _, rfl, .inr (SqT.of ha), rfl, _, rfl, iteF ?_⟩
      have er : ((r + 1 : Nat) : Int) - 1 = (r : Int) := by omega
      refine ⟨_, rfl, a, _, _, _, rfl, rfl, SqT.of ha, (by rfl), _, rfl, _, rfl, _, _, rfl, rfl, ?_⟩
      refine ⟨x, e, h, (by show [x, V.int (h : Int), V.int (((r + 1 : Nat) : Int) - 1)] = _; rw [er]), hx, hh, fun n1 H1 s1 => ?_, fun u n1 p H1 s1 hp => ?_⟩
      · refine ⟨_, rfl, rfl, _, rfl, iteT ?_⟩
        exact q0 (by show stand1 _ _ _ = none; rw [n1]; rfl) _ s1
      · refine ⟨_, rfl, rfl, _, rfl, iteF ?_⟩
        have ha1 := s1 _ _ ha
        refine ⟨_, rfl, a, _, _, _, rfl, rfl, SqT.of ha1, (by rfl), rfl, _, rfl, ?_⟩
        have hyN : decide (y = V.non) = isN g := by
          cases hy <;> rfl
        rw [hyN]
        cases cN : isN g with
        | true =>
          refine iteT ⟨_, rfl, p, _, _, _, rfl, rfl, SqT.of hp, (by rfl), _, _, rfl, rfl, .inl ⟨by decide, by decide⟩, _, rfl, p, _, _, _, rfl, rfl, SqT.of hp, (by rfl), _, rfl, p, _, _, _, rfl, rfl, SqT.of hp, (by rfl), (by show 3 ≤ sizeLine; decide), fun t ht => ?_⟩
          exact q1 (3 * u.1, u.2.1, u.2.2) (by show stand1 _ _ _ = _; rw [n1]; unfold stand1; rw [Option.bind_some, if_pos cN]) t _ (s1.trans (same_new ht _)) (by rw [upd_same]; rfl)
        | false =>
          refine iteF ⟨_, rfl, a, _, _, _, rfl, rfl, SqT.of ha1, (by rfl), _, rfl, _, _, rfl, rfl, _, rfl, _, _, rfl, rfl, ?_⟩
          have est : ∀ z, stand r g (1 - h) = z → stand (r + 1) (.tuple [e, g]) h = z.bind (metD u) := fun z hz => by
            show stand1 _ _ _ = _
            rw [n1, hz]
            unfold stand1
            rw [Option.bind_some, if_neg (by rw [cN]; decide)]
          refine ⟨y, g, 1 - h, (by show [y, V.int ((1 : Int) - (h : Int)), V.int (((r + 1 : Nat) : Int) - 1)] = _; rw [er, show (1 : Int) - (h : Int) = ((1 - h : Nat) : Int) by omega]), hy.mono (Tups.same s1), by omega, fun n2 H2 s2 => ?_, fun u2 n2 p2 H2 s2 hp2 => ?_⟩
          · refine ⟨_, rfl, rfl, _, rfl, iteT ?_⟩
            exact q0 (by rw [est _ n2]; rfl) _ (s1.trans s2)
          · refine ⟨_, rfl, rfl, _, rfl, iteF ?_⟩
            refine ⟨_, rfl, _, rfl, p, p2, u, u2, rfl, s2 _ _ hp, hp2, fun n3 => ?_, fun w3 n3 o H3 s3 ho => ?_⟩
            · exact q0 (by rw [est _ n2]; exact n3) _ (s1.trans s2)
            · exact q1 w3 (by rw [est _ n2]; exact n3) o _ (s1.trans (s2.trans s3)) ho
theorem scPlace : FnScope ["known", "hand", "stands"] ["known", "hand"] (defScope sPlace) := ⟨rfl, rfl, rfl, by decide +kernel, rfl, by decide +kernel, by decide +kernel⟩
theorem ok_place {f g1 g2 g3 cN : Addr} {fd d1 d2 d3 : FuncData} (F : Fun K "place" "place" sPlace f fd) (R : RaiseC K mg "NoKnown" cN) (W1 : Def P w K mg base "is_hand" ["thing"] 3 spHand g1 d1) (W2 : Def P w K mg base "rounds_behind" ["thing"] 1 spRb g2 d2)
    (bS : Binds K d3 ["thing", "hand", "rounds"] []) (kS : PySem.W.keepIn K (.ref g3) = true) (mS : mg "standing" = some (.ref g3)) (S : ∀ r, r ≤ 5 → FnOk P w K mg base CX0 (3 + r) g3 d3 ["thing", "hand", "rounds"] (spStand r)) :
    FnOk P w K mg base (L2.CX P w) 9 f fd ["known", "hand"] (spPlace cN) := by
  refine F.okX scPlace (fun vs H Q E h => ?_) (fun cdv A outer s H vs Q E hr h => ?_)
  · obtain ⟨v, d, h, rfl, _⟩ := h
    rfl
  obtain ⟨v, d, h, rfl, hk, hh, q0, q1⟩ := h
  have nd := scPlace.nd
  have h5 : rb 5 d ≤ 5 := by
    have key : ∀ (n : Nat) (d : PyData), rb n d ≤ n := by
      intro n
      induction n with
      | zero => intro d; simp [rb]
      | succ n ih =>
        intro d
        match d with
        | .tuple [x, y] => simp only [rb]; have := ih x; omega
        | .tuple [] | .tuple [_] | .tuple (_ :: _ :: _ :: _) | .none | .bool _ | .int _ | .str _ | .list _ | .dict _ => simp [rb]
    exact key 5 d
  refine ⟨_, pss_cons (ps_if (pt_not (pt_val (pe_call W1.G (hr.mono (by decide)) rfl W1.m W1.k W1.b .nil pass0 (pa_cons (pv 1) pa_nil)))) pss_never pss_nil)
    (pss_cons (ps_set (i := 2) nd rfl (Or.inl rfl) (pe_call (S (rb 5 d) h5) (hr.mono (by omega)) rfl mS kS bS .nil pass0 (pa_cons (pv 0) (pa_cons (pv 1) (pa_cons (pe_call W2.G (hr.mono (by decide)) rfl W2.m W2.k W2.b .nil pass0 (pa_cons (pv 0) pa_nil)) pa_nil)))))
    (pss_cons (ps_if (pt_cmpR op_isN (pv 2) pe_non (nomark _)) (pss_one (ps_raise rfl (takes_of rfl rfl rfl rfl) (pmk_own PySem.F.excBase_ValueError R.x R.m R.k (raises_own R.b R.t) (by exact rfl)))) pss_nil)
    (PSs.nox (pss_one (ps_ret (pe_ix ix_tup (pv 2) pe_int (fun _ _ => rfl))))))), ?_⟩
  have e1 : decide ((0 : Int) ≤ (h : Int) ∧ (h : Int) ≤ 1) = true := decide_eq_true (by omega)
  refine ⟨_, rfl, (h : Int), rfl, true, congrArg V.bl e1, iteF ?_⟩
  refine ⟨_, rfl, _, rfl, _, rfl, v, d, rfl, hk, v, d, h, rfl, hk, hh, fun n1 H1 s1 => ?_, fun u n1 p H1 s1 hp => ?_⟩
  · refine ⟨_, rfl, rfl, _, rfl, iteT ?_⟩
    exact q0 (by unfold placeD; rw [n1]; rfl) _ s1
  · refine ⟨_, rfl, rfl, _, rfl, iteF ?_⟩
    exact ⟨_, rfl, p, _, _, _, rfl, rfl, SqT.of hp, (by rfl), q1 u.1 (by unfold placeD; rw [n1]; rfl) _ s1⟩
end
end TA

set_option Elab.async false
set_option maxRecDepth 100000
set_option maxHeartbeats 4000000
namespace TA
open PySem L2 PyProof.Rows
set_option linter.unusedVariables false
def ky (t h : Nat) : List Key := [Sum.inl (t : Int), Sum.inl (h : Int)]
theorem ky_inj {t h t' h' : Nat} : ky t' h' = ky t h ↔ t' = t ∧ h' = h := by
  unfold ky
  constructor
  · intro e
    injection e with e1 e2
    injection e2 with e2 _
    injection e1 with e1
    injection e2 with e2
    omega
  · rintro ⟨rfl, rfl⟩
    rfl
def Pm.cur (p : Pm) (h : Nat) : Int := p.q h (p.l h)
theorem Pm.done_step (p : Pm) (z i : Nat) : (p.step z).done i = upf p.done z (p.done z + 1) i := by
  unfold Pm.step
  by_cases c : p.l z < p.n z
  · rw [if_pos c]
    show upf p.l z (p.l z + 1) i + p.n i = _
    by_cases e : i = z
    · subst e; rw [upf_same, upf_same]; unfold Pm.done; omega
    · rw [upf_ne e, upf_ne e]; rfl
  · rw [if_neg c]
    show p.l i + upf p.n z (p.n z + 1) i = _
    by_cases e : i = z
    · subst e; rw [upf_same, upf_same]; unfold Pm.done; omega
    · rw [upf_ne e, upf_ne e]; rfl
theorem Pm.done_run (p : Pm) (i : Nat) : ∀ hs : List Nat, (p.run hs).done i = p.done i + hs.count i := by
  intro hs
  induction hs generalizing p with
  | nil => rfl
  | cons h r ih =>
    show ((p.step h).run r).done i = _
    rw [ih, Pm.done_step, List.count_cons]
    unfold upf
    by_cases e : i = h
    · subst e; simp; omega
    · have e2 : ¬ h = i := fun q => e q.symm
      simp [e, e2]
theorem Nb.half {p : Pm} (N : Nb p) {z : Nat} (hz : z < 2) : p.done z / 2 = p.l z ∧ (p.done z % 2 = 0 ↔ ¬ p.l z < p.n z) ∧ (¬ p.l z < p.n z → p.n z = p.l z) := by
  have := N.n1 z hz
  unfold Pm.done
  omega
structure PlS (H0 H : Hp) (sp dn cd : Addr) (p : Pm) : Prop where
  same : Same H0 H
  f1 : H0 sp = none
  f2 : H0 dn = none
  f3 : H0 cd = none
  n1 : sp ≠ dn
  n2 : sp ≠ cd
  n3 : dn ≠ cd
  hs : H sp = some (.lst [.int (p.cur 0), .int (p.cur 1)])
  hd : H dn = some (.lst [.int (p.done 0 : Nat), .int (p.done 1 : Nat)])
  hc : ∃ kvs, H cd = some (.dT kvs) ∧ kvs.length ≤ p.done 0 + p.done 1 ∧ ∀ h < 2, ∀ t : Nat, valV kvs (ky t h) = if t < p.n h then some (V.int (p.q h t)) else none
  nb : Nb p
theorem PlS.new {H0 H : Hp} {sp dn cd : Addr} {p : Pm} (S : PlS H0 H sp dn cd p) {q : Addr} (hq : H q = none) (o : HO) : PlS H0 (upd H q o) sp dn cd p := by
  have s := same_new hq o
  obtain ⟨kvs, h3, h4, h5⟩ := S.hc
  exact { S with same := S.same.trans s, hs := s _ _ S.hs, hd := s _ _ S.hd, hc := ⟨kvs, s _ _ h3, h4, h5⟩ }
theorem Pm.sum_step (p : Pm) {z : Nat} (hz : z < 2) : (p.step z).done 0 + (p.step z).done 1 = p.done 0 + p.done 1 + 1 := by
  rw [Pm.done_step, Pm.done_step]
  obtain rfl | rfl : z = 0 ∨ z = 1 := by omega
  · show p.done 0 + 1 + p.done 1 = _; omega
  · show p.done 0 + (p.done 1 + 1) = _; omega
theorem PlS.put {H0 H : Hp} {sp dn cd : Addr} {p : Pm} (S : PlS H0 H sp dn cd p) {z : Nat} (hz : z < 2) (c : ¬ p.l z < p.n z) {kvs : List (List Key × V)} (hcd : H cd = some (.dT kvs)) :
    PlS H0 (upd (upd H cd (.dT (putK kvs (ky (p.l z) z) (.int (p.cur z))))) dn (.lst [.int ((p.step z).done 0 : Nat), .int ((p.step z).done 1 : Nat)])) sp dn cd (p.step z) := by
  have es : p.step z = { q := p.q, l := p.l, n := upf p.n z (p.n z + 1) } := by unfold Pm.step; rw [if_neg c]
  have hl := (S.nb.half hz).2.2 c
  obtain ⟨kvs', h3, h4, h5⟩ := S.hc
  rw [hcd] at h3
  cases h3
  refine { S with same := same_upd (same_upd S.same S.f3) S.f2, hs := ?_, hd := upd_same, hc := ⟨_, by rw [upd_ne S.n3.symm, upd_same], ?_, fun h hh t => ?_⟩, nb := S.nb.step hz }
  · rw [upd_ne S.n1, upd_ne S.n2, es]; exact S.hs
  · have g1 := length_putK kvs (ky (p.l z) z) (.int (p.cur z))
    rw [Pm.sum_step p hz]
    generalize (putK kvs (ky (p.l z) z) (.int (p.cur z))).length = n at g1 ⊢
    omega
  · rw [valV_put, es]
    show (if ky t h = ky (p.l z) z then _ else _) = if t < upf p.n z (p.n z + 1) h then some (V.int (p.q h t)) else none
    by_cases e : h = z
    · subst e
      rw [upf_same]
      by_cases et : t = p.l h
      · subst et
        rw [if_pos rfl, if_pos (by omega)]
        rfl
      · rw [if_neg (fun q => et (ky_inj.mp q).1), h5 h hh t]
        by_cases ct : t < p.n h
        · rw [if_pos ct, if_pos (by omega)]
        · rw [if_neg ct, if_neg (by omega)]
    · rw [upf_ne e, if_neg (fun q => e (ky_inj.mp q).2)]
      exact h5 h hh t
theorem cur_look (p : Pm) {z : Nat} (c : p.l z < p.n z) (i : Nat) : (p.step z).cur i = upf p.cur z (p.nxt z) i := by
  unfold Pm.step
  rw [if_pos c]
  show upf p.q z (upf (p.q z) (p.l z + 1) (p.nxt z)) i (upf p.l z (p.l z + 1) i) = _
  by_cases e : i = z
  · subst e; rw [upf_same, upf_same, upf_same, upf_same]
  · rw [upf_ne e, upf_ne e, upf_ne e]; rfl
theorem PlS.look {H0 H : Hp} {sp dn cd : Addr} {p : Pm} (S : PlS H0 H sp dn cd p) {z : Nat} (hz : z < 2) (c : p.l z < p.n z) :
    PlS H0 (upd (upd H sp (.lst [.int ((p.step z).cur 0), .int ((p.step z).cur 1)])) dn (.lst [.int ((p.step z).done 0 : Nat), .int ((p.step z).done 1 : Nat)])) sp dn cd (p.step z) := by
  have es : p.step z = { q := upf p.q z (upf (p.q z) (p.l z + 1) (p.nxt z)), l := upf p.l z (p.l z + 1), n := p.n } := by unfold Pm.step; rw [if_pos c]
  obtain ⟨kvs, h3, h4, h5⟩ := S.hc
  refine { S with same := same_upd (same_upd S.same S.f1) S.f2, hs := by rw [upd_ne S.n1, upd_same], hd := upd_same, hc := ⟨kvs, by rw [upd_ne S.n3.symm, upd_ne S.n2.symm]; exact h3, by rw [Pm.sum_step p hz]; omega, fun h hh t => ?_⟩, nb := S.nb.step hz }
  rw [h5 h hh t, es]
  show _ = if t < p.n h then some (V.int (upf p.q z (upf (p.q z) (p.l z + 1) (p.nxt z)) h t)) else none
  by_cases e : h = z
  · subst e
    rw [upf_same]
    by_cases ct : t < p.n h
    · have := S.nb.n1 h hh
      rw [if_pos ct, if_pos ct, upf_ne (show t ≠ p.l h + 1 by omega)]
    · rw [if_neg ct, if_neg ct]
  · rw [upf_ne e]
theorem doneP_set (p : Pm) {z : Nat} (hz : z < 2) : ([.int (p.done 0 : Nat), .int (p.done 1 : Nat)] : List V).set z (.int (((p.done z : Nat) : Int) + 1)) = [.int ((p.step z).done 0 : Nat), .int ((p.step z).done 1 : Nat)] := by
  rw [Pm.done_step, Pm.done_step]
  exact ints_set p.done hz (p.done z + 1)
theorem curP_set (p : Pm) {z : Nat} (hz : z < 2) (c : p.l z < p.n z) : ([.int (p.cur 0), .int (p.cur 1)] : List V).set z (.int (p.nxt z)) = [.int ((p.step z).cur 0), .int ((p.step z).cur 1)] := by
  rw [cur_look p c, cur_look p c]
  have := two_set (fun j => V.int (p.cur j)) hz (V.int (p.nxt z))
  rw [upf_map (fun n : Int => V.int n) p.cur z (p.nxt z) 0, upf_map (fun n : Int => V.int n) p.cur z (p.nxt z) 1] at this
  exact this
/-- the place where a hand stands behind all its steps -/
def plv (p : Pm) (d : Nat) (h : Nat) : V := if p.done h = 2 * d then .int (p.cur h) else .non
def spPlaces (K : PySem.W.Frag) : Sp := fun vs H Q _ => ∃ (p : Addr) (hs : List Nat) (d : Nat), vs = [.ref p, .int (d : Int)] ∧ SqL K H p (hl hs) ∧ (∀ h ∈ hs, h < 2) ∧ hs.length ≤ 40 ∧
  ∀ (o : Addr) (H' : Hp), Same H H' → H o = none → H' o = some (.lst [plv (P0.run hs) d 0, plv (P0.run hs) d 1]) → Q (.ref o) H'
def spPower : Sp := fun vs H Q _ => ∃ d : Nat, vs = [.int (d : Int)] ∧ d ≤ 100 ∧ Q (.int (3 ^ d)) H
end TA

set_option Elab.async false
set_option maxRecDepth 100000
set_option maxHeartbeats 4000000
namespace TA
open PySem L2 PyProof.Rows
set_option linter.unusedVariables false
theorem At.place {a b : Int} {r : Nat} {d : PyData} {h : Nat} {j : Int} (k : At a b r d h j) (hr : r ≤ 5) : placeD d h = some j := by
  obtain ⟨u, e, rfl, _⟩ := k
  unfold placeD
  rw [stand_rb e 5, show min 5 r = r by omega, e]
  rfl
/-- behind a weaving: what is known, and where it stands -/
theorem behind {a b : Int} (ha : 0 ≤ a) (hb : 0 ≤ b) {hs : List Nat} (hh : ∀ h ∈ hs, h < 2) {d h : Nat} (h2 : h < 2) (hc : hs.count h = 2 * d) :
    ((M0 a b).run hs).res d h = ((M0 a b).run hs).k h ∧ At a b d (((M0 a b).run hs).k h) h ((P0.run hs).cur h) ∧ plv (P0.run hs) d h = .int ((P0.run hs).cur h) ∧ (P0.run hs).l h = d := by
  obtain ⟨R, N⟩ := run_both ha hb hh (Rel.zero ha hb) Nb.zero
  have d1 : ((M0 a b).run hs).done h = 2 * d := by rw [M.done_run, hc]; show 0 + 0 + _ = _; omega
  have d2 : (P0.run hs).done h = 2 * d := by rw [Pm.done_run, hc]; show 0 + 0 + _ = _; omega
  have n1 := N.n1 h h2
  have hl : (P0.run hs).l h = d := by unfold Pm.done at d2; omega
  refine ⟨by unfold M.res; rw [if_pos d1], ?_, by unfold plv; rw [if_pos d2], hl⟩
  have := R.k h h2
  rw [hl] at this
  unfold Pm.cur
  rw [hl]
  exact this
theorem stopped_res {a b : Int} {hs : List Nat} {d h : Nat} (hc : hs.count h ≠ 2 * d) : ((M0 a b).run hs).res d h = .none ∧ plv (P0.run hs) d h = .non := by
  have d1 : ¬ ((M0 a b).run hs).done h = 2 * d := by rw [M.done_run]; show ¬ 0 + 0 + _ = _; omega
  have d2 : ¬ (P0.run hs).done h = 2 * d := by rw [Pm.done_run]; show ¬ 0 + 0 + _ = _; omega
  exact ⟨by unfold M.res; rw [if_neg d1], by unfold plv; rw [if_neg d2]⟩
theorem cur_facts {a b : Int} (ha : 0 ≤ a) (hb : 0 ≤ b) {hs : List Nat} (hh : ∀ h ∈ hs, h < 2) {d h : Nat} (h2 : h < 2) (hc : hs.count h = 2 * d) : (P0.run hs).cur h % 2 = (h : Int) ∧ 0 ≤ (P0.run hs).cur h ∧ (P0.run hs).cur h ≤ 3 ^ d := by
  obtain ⟨R, N⟩ := run_both ha hb hh (Rel.zero ha hb) Nb.zero
  have hl := (behind ha hb hh h2 hc).2.2.2
  have := N.n5 h h2 ((P0.run hs).l h) (Nat.le_refl _)
  rw [hl] at this
  unfold Pm.cur
  rw [hl]
  exact this
theorem cur_near {a b : Int} (ha : 0 ≤ a) (hb : 0 ≤ b) {hs : List Nat} (hh : ∀ h ∈ hs, h < 2) {d : Nat} (c0 : hs.count 0 = 2 * d) (c1 : hs.count 1 = 2 * d) : ((P0.run hs).cur 1 - (P0.run hs).cur 0).natAbs = 1 := by
  obtain ⟨R, N⟩ := run_both ha hb hh (Rel.zero ha hb) Nb.zero
  have l0 := (behind ha hb hh (h := 0) (by decide) c0).2.2.2
  have l1 := (behind ha hb hh (h := 1) (by decide) c1).2.2.2
  have := N.n3 d (by omega) (by omega)
  unfold Pm.cur
  rw [l0, l1]
  exact this
def tD : Option Int → PyData
  | some j => .int j
  | none => .str "known"
def tV : Option Int → V
  | some j => .int j
  | none => .str "known"
theorem tV_dp {K : PySem.W.Frag} {H : Hp} (o : Option Int) : Dp K H (tV o) (tD o) := by
  cases o with
  | none => exact .str _
  | some j => exact .int j
theorem tD_shaped (o : Option Int) : SeqAt.shaped (tD o) = true := by
  cases o with
  | none => decide +kernel
  | some j => rfl
section
variable {a b : Int} {d h : Nat} {mine its : PyData} {spot other : Int}
theorem deep5 (k : At a b 5 mine h spot) (y : PyData) : placeD (.tuple [mine, y]) h = none := by
  obtain ⟨u, e, _⟩ := k
  unfold placeD
  have : rb 5 (.tuple [mine, y]) = 5 := by
    show rb 4 mine + 1 = 5
    rw [stand_rb e 4]
    rfl
  rw [this]
  show (stand1 (stand 4 mine h) y (stand 4 y (1 - h))).map _ = none
  cases e4 : stand 4 mine h with
  | none => rfl
  | some v => exact absurd (stand_uniq e e4) (by decide)
theorem rb_tuple (k : At a b d mine h spot) (hd : d < 5) (y : PyData) : rb 5 (.tuple [mine, y]) = d + 1 := by
  obtain ⟨u, e, _⟩ := k
  show rb 4 mine + 1 = d + 1
  rw [stand_rb e 4, show min 4 d = d by omega]
theorem mixed_place (hh : h < 2) (k : At a b d mine h spot) (l : At a b d its (1 - h) other) (hd : d ≤ 5) : placeD (.tuple [mine, its]) h = if (other - spot).natAbs = 1 ∧ d < 5 then some (3 * spot + 2 * (other - spot)) else none := by
  by_cases h5 : d < 5
  · by_cases n : (other - spot).natAbs = 1
    · rw [if_pos ⟨n, h5⟩]
      exact (At.met hh k l n).place (by omega)
    · rw [if_neg (fun z => n z.1)]
      unfold placeD
      rw [rb_tuple k h5]
      obtain ⟨u, e, rfl, _⟩ := k
      obtain ⟨v, e2, rfl, _⟩ := l
      show (stand1 _ _ _).map _ = none
      rw [e, e2]
      unfold stand1 metD
      rw [Option.bind_some, if_neg (by rw [stand_isN e2]; decide), Option.bind_some, if_neg (fun z => n z.1)]
      rfl
  · obtain rfl : d = 5 := by omega
    rw [if_neg (fun z => h5 z.2)]
    exact deep5 k its
theorem none_place (k : At a b d mine h spot) (hd : d ≤ 5) : placeD (.tuple [mine, .none]) h = if d < 5 then some (3 * spot) else none := by
  by_cases h5 : d < 5
  · rw [if_pos h5]
    exact k.alone.place (by omega)
  · obtain rfl : d = 5 := by omega
    rw [if_neg h5]
    exact deep5 k .none
theorem pow3_ge {d : Nat} (hd : 1 ≤ d) : (3 : Int) ≤ 3 ^ d := by
  obtain ⟨e, rfl⟩ : ∃ e, d = e + 1 := ⟨d - 1, by omega⟩
  have : (1 : Int) ≤ 3 ^ e := by
    have := Int.pow_pos (n := 3) (m := e) (by decide)
    omega
  rw [Int.pow_succ]
  omega
theorem same_place (hh : h < 2) (k : At a b d mine h spot) (hd1 : 1 ≤ d) (hd : d ≤ 5) (ne : a ≠ b) : placeD (.tuple [mine, mine]) h = none := by
  by_cases h5 : d < 5
  · unfold placeD
    rw [rb_tuple k h5]
    obtain ⟨u, e, rfl, i1, i2⟩ := k
    show (stand1 _ _ _).map _ = none
    rw [e]
    unfold stand1
    rw [Option.bind_some, if_neg (by rw [stand_isN e]; decide)]
    cases e2 : stand d mine (1 - h) with
    | none => rfl
    | some v =>
      rw [Option.bind_some]
      unfold metD
      have p3 := pow3_ge hd1
      rw [if_neg]
      · rfl
      rintro ⟨z1, z2, z3⟩
      obtain ⟨x, s0, s1, s2⟩ := stand_own (r := d) (d := mine)
      obtain rfl | rfl : h = 0 ∨ h = 1 := by omega
      · have f1 := (s0 _ e).1
        have f2 := (s1 _ e2).1
        have ea : u.2.1 = some a := by
          rcases i1 with q | ⟨q, _⟩
          · exact q
          · cases q
        rcases i2 with q | ⟨_, q⟩
        · rw [q, f2] at z3
          have : b = x := of_decide_eq_true z3
          rw [f1] at ea
          cases ea
          exact ne this.symm
        · have := s2 _ _ e e2 (.inl q)
          omega
      · have f1 := (s1 _ e).1
        have f2 := (s0 _ e2).1
        have eb : u.2.2 = some b := by
          rcases i2 with q | ⟨q, _⟩
          · exact q
          · cases q
        rcases i1 with q | ⟨_, q⟩
        · rw [q, f2] at z2
          have : a = x := of_decide_eq_true z2
          rw [f1] at eb
          cases eb
          exact ne this
        · have := s2 _ _ e2 e (.inr q)
          omega
  · obtain rfl : d = 5 := by omega
    exact deep5 k mine
end
/-- known(inputs, weaving, rounds = deep): how the arguments bind -/
abbrev KnB (K : PySem.W.Frag) (fd : FuncData) : Prop := KBn K fd ["inputs", "weaving", "rounds"] 2 ["rounds"] (fun us ws => us ++ ws) (fun vs zs => vs ++ zs)
structure KDef (P : Program) (w : World) (K : PySem.W.Frag) (mg : Str → Option Value) (base : Heap) (f : Addr) (fd : FuncData) : Prop where
  G : FnOk P w K mg base CX0 5 f fd ["inputs", "weaving", "rounds"] (spKnown K)
  b : KnB K fd
  k : PySem.W.keepIn K (.ref f) = true
  m : mg "known" = some (.ref f)
theorem kn_binds {K : PySem.W.Frag} {f : Addr} {fd : FuncData} (F : Fun K "known" "known" sKnown f fd) : KnB K fd := by
  obtain ⟨oc, od, kV, doc, pm, an, cdv, ct, osl, rfl, lk, hcd⟩ := F.ex
  refine ⟨fun s us ws _ h1 h2 => ?_, fun r q => r.append q⟩
  match us, ws, h1, h2 with
  | [_, _], [_], _, _ => exact .of_eq rfl
theorem But.tups {a : Addr} {H H' : Hp} {n : Int} (b : But a H H') (w : WellAt H a n) : Tups H H' := fun c xs e => by
  obtain ⟨x, y, z, ea, _⟩ := w
  exact b _ _ (ne_of e ea (fun q => by cases q)) e
theorem iteT' {c : Bool} {A B : Prop} (e : c = true) (a : A) : if c = true then A else B := by rw [if_pos e]; exact a
theorem iteF' {c : Bool} {A B : Prop} (e : c = false) (b : B) : if c = true then A else B := by rw [e]; exact b
structure PDef (P : Program) (w : World) (K : PySem.W.Frag) (mg : Str → Option Value) (base : Heap) (cN : Addr) (f : Addr) (fd : FuncData) : Prop where
  G : FnOk P w K mg base (L2.CX P w) 9 f fd ["known", "hand"] (spPlace cN)
  b : Binds K fd ["known", "hand"] []
  k : PySem.W.keepIn K (.ref f) = true
  m : mg "place" = some (.ref f)
theorem passN {X : Cx} (σ : L2.St) : PassesAt (L2.CX X.prog X.w) X σ (fun _ _ _ => False) := fun _ _ _ _ _ _ c => by
  obtain ⟨_, _, _, _, _, _, _, _, _, _, _, _, z⟩ := c
  exact z.elim
theorem Kn.isNon {H : Hp} {v : V} {d : PyData} (k : Kn H v d) : decide (v = .non) = isN d := by
  cases k <;> rfl
theorem join2 {b : Bool} {X : Prop} {R : L2.St → Hp → Prop} {σ : L2.St} {H : Hp} (Iv : L2.St → Hp → Prop) (h0 : Iv σ H) (k : ∀ σ Hc, Iv σ Hc → R σ Hc) (h1 : b = true → (∀ σ Hc, Iv σ Hc → R σ Hc) → X) : if b = true then X else R σ H := by
  cases b with
  | false => exact iteF (k σ H h0)
  | true => exact iteT (h1 rfl k)
theorem But.wells {a p : Addr} {H H' : Hp} {n : Int} {o : HO} (b : But a H H') (w : WellAt H a n) (hp : H p = some o) (ne : ∀ x y z : Int, o ≠ .lst [.int x, .int y, .int z]) : H' p = some o := by
  obtain ⟨x, y, z, ea, _⟩ := w
  exact b _ _ (ne_of hp ea (ne x y z)) hp
def spRight : Sp := fun vs H Q _ => ∃ a : Addr, vs = [.ref a] ∧ WellAt H a 0 ∧ ∀ H', But a H H' → Q (.bl true) H'
end TA

set_option Elab.async false
set_option maxRecDepth 100000
set_option maxHeartbeats 4000000
namespace TA
open PySem L2 PyProof.Rows
set_option linter.unusedVariables false
theorem hu65_of {A : Around} {k : Nat} (hr : Room k A) : A.units + 65 < cLine := by have := hr.un; omega
/-- x not in t, t a tuple of data -/
def rNotInT (K : PySem.W.Frag) : R2 := fun x y H Q => ∃ d ds, Dp K H x d ∧ Dp K H y (.tuple ds) ∧ SeqAt.shaped d = true ∧ SeqAt.shaped (.tuple ds) = true ∧ Q (.bl (!ds.any fun z => PyData.eqv z d)) H
theorem op_notInT {X : Cx} (hu : X.A.units + 65 < cLine) : OpR X (compareOp .NotIn) (rNotInT X.K) := by
  intro pins s σ H x y v u Q I rx ry h
  obtain ⟨d, ds, hd, he, sd, se, q⟩ := h
  obtain ⟨as, ra⟩ := Dp.reads I d x v hd rx
  obtain ⟨bs, rt⟩ := Dp.reads I (.tuple ds) y u he ry
  exact SeqAt.notIn_tuple_reads rt ra (SeqAt.canLay_of_shaped (d := .tuple ds) se) (SeqAt.canLay_of_shaped sd) (room_in_shaped sd hu) ⟨.bl _, H, I, rfl, q⟩
/-! what a hand knew n rounds ahead -/
def fst0 : PyData → PyData
  | .tuple [x, _] => x
  | d => d
def pre : Nat → PyData → PyData
  | 0, d => d
  | n + 1, d => pre n (fst0 d)
theorem pre_next (n : Nat) (d : PyData) : pre (n + 1) d = fst0 (pre n d) := by
  induction n generalizing d with
  | zero => rfl
  | succ n ih =>
    show pre (n + 1) (fst0 d) = fst0 (pre n (fst0 d))
    exact ih _
theorem stand_pre : ∀ {i r : Nat} {d : PyData} {h : Nat} {u : Stands}, stand r d h = some u → i ≤ r → ∃ u', stand (r - i) (pre i d) h = some u'
  | 0, r, d, h, u, e, _ => ⟨u, e⟩
  | i + 1, r, d, h, u, e, hi => by
    obtain ⟨r', rfl⟩ : ∃ r', r = r' + 1 := ⟨r - 1, by omega⟩
    obtain ⟨x, y, u0, rfl, e0, _⟩ := standS e
    obtain ⟨u', q⟩ := stand_pre (i := i) e0 (by omega)
    refine ⟨u', ?_⟩
    rw [show r' + 1 - (i + 1) = r' - i by omega]
    exact q
/-- the first steps, so many of each hand -/
def fsn (many : Nat) (hs : List Nat) : Nat → List Nat
  | 0 => []
  | i + 1 => if (hs.take i).count (hs.getD i 0) < many then fsn many hs i ++ [hs.getD i 0] else fsn many hs i
theorem take_next {hs : List Nat} {i : Nat} (hi : i < hs.length) : hs.take (i + 1) = hs.take i ++ [hs.getD i 0] := by
  rw [List.take_add_one, List.getD_eq_getElem?_getD, List.getElem?_eq_getElem hi]
  rfl
theorem getD_mem {hs : List Nat} {i : Nat} (hi : i < hs.length) : hs.getD i 0 ∈ hs := by
  rw [List.getD_eq_getElem?_getD, List.getElem?_eq_getElem hi]
  exact List.getElem_mem _
theorem fsn_count (many : Nat) (hs : List Nat) (h : Nat) : ∀ i, i ≤ hs.length → (fsn many hs i).count h = min many ((hs.take i).count h)
  | 0, _ => by simp [fsn]
  | i + 1, hi => by
    have ih := fsn_count many hs h i (by omega)
    rw [take_next (by omega), List.count_append]
    show (if (hs.take i).count (hs.getD i 0) < many then fsn many hs i ++ [hs.getD i 0] else fsn many hs i).count h = _
    generalize hs.getD i 0 = z
    have cz : List.count h [z] = if z = h then 1 else 0 := by
      rw [List.count_singleton]
      by_cases e : z = h
      · subst e; simp
      · simp [e]
    by_cases c : (hs.take i).count z < many
    · rw [if_pos c, List.count_append, ih, cz]
      by_cases e : z = h
      · subst e; rw [if_pos rfl]; omega
      · rw [if_neg e]; omega
    · rw [if_neg c, ih, cz]
      by_cases e : z = h
      · subst e; rw [if_pos rfl]; omega
      · rw [if_neg e]; omega
theorem fsn_mem {many : Nat} {hs : List Nat} (q : ∀ h ∈ hs, h < 2) : ∀ i, i ≤ hs.length → ∀ h ∈ fsn many hs i, h < 2
  | 0, _, h, m => by cases m
  | i + 1, hi, h, m => by
    unfold fsn at m
    split at m
    · rcases List.mem_append.mp m with m | m
      · exact fsn_mem q i (by omega) h m
      · rw [List.mem_singleton.mp m]; exact q _ (getD_mem (by omega))
    · exact fsn_mem q i (by omega) h m
theorem fsn_len (many : Nat) (hs : List Nat) : ∀ i, (fsn many hs i).length ≤ i
  | 0 => Nat.le_refl _
  | i + 1 => by
    have ih := fsn_len many hs i
    unfold fsn
    split
    · rw [List.length_append]; show _ + 1 ≤ _; omega
    · omega
structure Sim (few : Nat) (m m' : M) : Prop where
  l : ∀ h < 2, m'.l h = min few (m.l h)
  c : ∀ h < 2, m'.c h = (m.c h).take few
  k : ∀ h < 2, m'.k h = pre (m.l h - few) (m.k h)
theorem M.put_eq {m : M} {h : Nat} (c : ¬ m.l h < (m.c h).length) : m.step h = { k := m.k, c := upf m.c h (m.c h ++ [m.k h]), l := m.l } := by unfold M.step; rw [if_neg c]
theorem M.look_eq {m : M} {h : Nat} (c : m.l h < (m.c h).length) : m.step h = { k := upf m.k h (.tuple [m.k h, (m.c (1 - h)).getD (m.l h) .none]), c := m.c, l := upf m.l h (m.l h + 1) } := by unfold M.step; rw [if_pos c]
theorem getD_take {α : Type} {xs : List α} {n t : Nat} {z : α} (h : t < n) : (xs.take n).getD t z = xs.getD t z := by
  rw [List.getD_eq_getElem?_getD, List.getD_eq_getElem?_getD, List.getElem?_take, if_pos h]
theorem Sim.step_in {few : Nat} {m m' : M} (S : Sim few m m') (w : m.wf) {z : Nat} (hz : z < 2) (c : m.done z < 2 * few) : Sim few (m.step z) (m'.step z) := by
  have wz := w z hz
  have ho : 1 - z < 2 := by omega
  have lz := S.l z hz
  have cz := S.c z hz
  have kz := S.k z hz
  have co := S.c (1 - z) ho
  unfold M.done at c
  have l2 : m'.l z = m.l z := by omega
  have k2 : m'.k z = m.k z := by rw [kz, show m.l z - few = 0 by omega]; rfl
  by_cases cl : m.l z < (m.c z).length
  · have cl' : m'.l z < (m'.c z).length := by rw [cz, List.length_take, l2]; omega
    rw [M.look_eq cl, M.look_eq cl', k2, l2, co, getD_take (by omega)]
    refine ⟨fun h hh => ?_, S.c, fun h hh => ?_⟩
    · show upf m'.l z (m.l z + 1) h = min few (upf m.l z (m.l z + 1) h)
      by_cases e : h = z
      · subst e; rw [upf_same, upf_same]; omega
      · rw [upf_ne e, upf_ne e]; exact S.l h hh
    · show upf m'.k z _ h = pre (upf m.l z (m.l z + 1) h - few) (upf m.k z _ h)
      by_cases e : h = z
      · subst e; rw [upf_same, upf_same, upf_same, show m.l h + 1 - few = 0 by omega]; rfl
      · rw [upf_ne e, upf_ne e, upf_ne e]; exact S.k h hh
  · have cl' : ¬ m'.l z < (m'.c z).length := by rw [cz, List.length_take, l2]; omega
    rw [M.put_eq cl, M.put_eq cl', k2]
    refine ⟨S.l, fun h hh => ?_, S.k⟩
    show upf m'.c z (m'.c z ++ [m.k z]) h = (upf m.c z (m.c z ++ [m.k z]) h).take few
    by_cases e : h = z
    · subst e
      rw [upf_same, upf_same, cz, List.take_of_length_le (by omega), List.take_of_length_le (by rw [List.length_append]; show _ + 1 ≤ _; omega)]
    · rw [upf_ne e, upf_ne e]; exact S.c h hh
theorem Sim.step_out {few : Nat} {m m' : M} (S : Sim few m m') (w : m.wf) {z : Nat} (hz : z < 2) (c : ¬ m.done z < 2 * few) : Sim few (m.step z) m' := by
  have wz := w z hz
  unfold M.done at c
  by_cases cl : m.l z < (m.c z).length
  · rw [M.look_eq cl]
    refine ⟨fun h hh => ?_, S.c, fun h hh => ?_⟩
    · show m'.l h = min few (upf m.l z (m.l z + 1) h)
      by_cases e : h = z
      · subst e; rw [upf_same, S.l h hh]; omega
      · rw [upf_ne e]; exact S.l h hh
    · show m'.k h = pre (upf m.l z (m.l z + 1) h - few) (upf m.k z _ h)
      by_cases e : h = z
      · subst e
        rw [upf_same, upf_same, show m.l h + 1 - few = (m.l h - few) + 1 by omega]
        exact S.k h hh
      · rw [upf_ne e, upf_ne e]; exact S.k h hh
  · rw [M.put_eq cl]
    refine ⟨S.l, fun h hh => ?_, S.k⟩
    show m'.c h = (upf m.c z (m.c z ++ [m.k z]) h).take few
    by_cases e : h = z
    · subst e
      rw [upf_same, S.c h hh, List.take_append_of_le_length (by omega)]
    · rw [upf_ne e]; exact S.c h hh
theorem M.run_snoc' (m : M) (hs : List Nat) (h : Nat) : m.run (hs ++ [h]) = (m.run hs).step h := M.run_snoc m hs h
theorem sim_run (a b : Int) (few : Nat) {hs : List Nat} (q : ∀ h ∈ hs, h < 2) : ∀ i, i ≤ hs.length → Sim few ((M0 a b).run (hs.take i)) ((M0 a b).run (fsn (2 * few) hs i))
  | 0, _ => ⟨fun h hh => (Nat.min_eq_right (Nat.zero_le _)).symm, fun h hh => (List.take_nil).symm, fun h hh => by show _ = pre (0 - few) _; rw [Nat.zero_sub]; rfl⟩
  | i + 1, hi => by
    have S := sim_run a b few q i (by omega)
    have hz := q _ (getD_mem (show i < hs.length by omega))
    have w := M.wf_run (M.wf0 a b) (hs := hs.take i) (fun h hm => q h (List.mem_of_mem_take hm))
    have dn : ((M0 a b).run (hs.take i)).done (hs.getD i 0) = (hs.take i).count (hs.getD i 0) := by rw [M.done_run]; show 0 + 0 + _ = _; omega
    rw [take_next (by omega), M.run_snoc]
    unfold fsn
    by_cases c : (hs.take i).count (hs.getD i 0) < 2 * few
    · rw [if_pos c, M.run_snoc]
      exact S.step_in w hz (by rw [dn]; exact c)
    · rw [if_neg c]
      exact S.step_out w hz (by rw [dn]; exact c)
/-- cells hold what was known; what was seen last stood in a cell -/
structure Kp (m : M) : Prop where
  c : ∀ h < 2, ∀ t, t < (m.c h).length → (m.c h).getD t .none = pre (m.l h - t) (m.k h)
  s : ∀ h < 2, 0 < m.l h → ∃ x y, m.k h = .tuple [x, y] ∧ (y = .none ∨ (m.l h - 1 < (m.c (1 - h)).length ∧ y = (m.c (1 - h)).getD (m.l h - 1) .none))
theorem Kp.zero (a b : Int) : Kp (M0 a b) := ⟨fun h hh t ht => absurd ht (Nat.not_lt_zero _), fun h hh hl => absurd hl (Nat.lt_irrefl 0)⟩
theorem Kp.step {m : M} (p : Kp m) (w : m.wf) {z : Nat} (hz : z < 2) : Kp (m.step z) := by
  have wz := w z hz
  have ho : 1 - z < 2 := by omega
  by_cases cl : m.l z < (m.c z).length
  · rw [M.look_eq cl]
    refine ⟨fun h hh t ht => ?_, fun h hh hl => ?_⟩
    · show (m.c h).getD t .none = pre (upf m.l z (m.l z + 1) h - t) (upf m.k z _ h)
      have ht' : t < (m.c h).length := ht
      have old := p.c h hh t ht'
      by_cases e : h = z
      · subst e
        rw [upf_same, upf_same, show m.l h + 1 - t = (m.l h - t) + 1 by omega]
        exact old
      · rw [upf_ne e, upf_ne e]; exact old
    · show ∃ x y, upf m.k z _ h = .tuple [x, y] ∧ (y = .none ∨ (upf m.l z (m.l z + 1) h - 1 < (m.c (1 - h)).length ∧ y = (m.c (1 - h)).getD (upf m.l z (m.l z + 1) h - 1) .none))
      by_cases e : h = z
      · subst e
        refine ⟨m.k h, (m.c (1 - h)).getD (m.l h) .none, by rw [upf_same], ?_⟩
        rw [upf_same, Nat.add_sub_cancel]
        by_cases c2 : m.l h < (m.c (1 - h)).length
        · exact .inr ⟨c2, rfl⟩
        · left; rw [List.getD_eq_getElem?_getD, List.getElem?_eq_none (by omega)]; rfl
      · have hl' : 0 < upf m.l z (m.l z + 1) h := hl
        rw [upf_ne e] at hl'
        rw [upf_ne e, upf_ne e]
        exact p.s h hh hl'
  · rw [M.put_eq cl]
    refine ⟨fun h hh t ht => ?_, fun h hh hl => ?_⟩
    · show (upf m.c z (m.c z ++ [m.k z]) h).getD t .none = pre (m.l h - t) (m.k h)
      have ht' : t < (upf m.c z (m.c z ++ [m.k z]) h).length := ht
      by_cases e : h = z
      · subst e
        rw [upf_same] at ht' ⊢
        rw [List.length_append] at ht'
        have ht2 : t < (m.c h).length + 1 := ht'
        by_cases c2 : t < (m.c h).length
        · rw [List.getD_eq_getElem?_getD, List.getElem?_append_left c2, ← List.getD_eq_getElem?_getD]
          exact p.c h hh t c2
        · rw [List.getD_eq_getElem?_getD, List.getElem?_append_right (by omega), show t - (m.c h).length = 0 by omega, show m.l h - t = 0 by omega]
          rfl
      · rw [upf_ne e] at ht' ⊢
        exact p.c h hh t ht'
    · obtain ⟨x, y, e1, e2⟩ := p.s h hh hl
      refine ⟨x, y, e1, ?_⟩
      rcases e2 with e2 | ⟨e2, e3⟩
      · exact .inl e2
      · right
        show m.l h - 1 < (upf m.c z (m.c z ++ [m.k z]) (1 - h)).length ∧ y = (upf m.c z (m.c z ++ [m.k z]) (1 - h)).getD (m.l h - 1) .none
        by_cases e : 1 - h = z
        · subst e
          rw [upf_same]
          refine ⟨by rw [List.length_append]; omega, ?_⟩
          rw [List.getD_eq_getElem?_getD, List.getElem?_append_left e2, ← List.getD_eq_getElem?_getD]
          exact e3
        · rw [upf_ne e]; exact ⟨e2, e3⟩
theorem Kp.run (a b : Int) : ∀ {hs : List Nat} {m : M}, (∀ h ∈ hs, h < 2) → m.wf → Kp m → Kp (m.run hs)
  | [], m, _, _, p => p
  | z :: r, m, q, w, p => Kp.run a b (hs := r) (m := m.step z) (fun x hx => q x (List.mem_cons_of_mem _ hx)) (M.wf_step w (q z List.mem_cons_self)) (p.step w (q z List.mem_cons_self))
def spFs (K : PySem.W.Frag) : Sp := fun vs H Q _ => ∃ (p : Addr) (hs : List Nat) (many : Nat), vs = [.ref p, .int (many : Int)] ∧ SqL K H p (hl hs) ∧ (∀ h ∈ hs, h < 2) ∧ hs.length ≤ 40 ∧
  ∀ (o : Addr) (H' : Hp), Same H H' → H o = none → H' o = some (.lst (hl (fsn many hs hs.length))) → Q (.ref o) H'
def spAhead : Sp := fun vs H Q _ => ∃ (v : V) (d : PyData) (n r h : Nat) (u : Stands), vs = [v, .int (n : Int)] ∧ Kn H v d ∧ stand r d h = some u ∧ n ≤ r ∧ r ≤ 5 ∧ ∀ v', Kn H v' (pre n d) → Q v' H
section
variable {P : Program} {w : World} {K : PySem.W.Frag} {mg : Str → Option Value} {base : Heap}
abbrev nFs : List Str := ["_law_weaving_here", "_law_many", "_law_left", "_law_found", "_law_hand"]
theorem scFs : FnScope nFs ["_law_weaving_here", "_law_many"] (defScope s__law_first_steps) := ⟨rfl, rfl, rfl, by decide +kernel, rfl, by decide +kernel, by decide +kernel⟩
theorem ok_fs {f : Addr} {fd : FuncData} (F : Fun K "_law_first_steps" "_law_first_steps" s__law_first_steps f fd) : FnOk P w K mg base CX0 1 f fd ["_law_weaving_here", "_law_many"] (spFs K) := by
  refine F.ok scFs (fun vs H Q E h => ?_) (fun cdv A outer s H vs Q E hr h => ?_)
  · obtain ⟨p, hs, many, rfl, _⟩ := h
    rfl
  obtain ⟨p, hs, many, rfl, hS, hh, hz, q⟩ := h
  have nd := scFs.nd
  refine ⟨_, (pss_cons (ps_set (i := 2) nd rfl (Or.inl rfl) (pe_lst (pa_cons (pv 1) (pa_cons (pv 1) pa_nil))))
    (pss_cons (ps_set (i := 3) nd rfl (Or.inl rfl) (pe_lst pa_nil))
    (pss_cons (ps_for PassesOwn.never (by rfl) (pi_list (pv 0)) (pg_name (i := 4) nd rfl (Or.inl rfl))
      (pss_one (ps_if (pt_cmpR op_gt (pe_ix ix_list (pv 2) (pv 4) (fun _ _ => rfl)) pe_int (nomark _))
      (pss_cons (ps_expr (pe_bm PySem.F.plainAttrs_list PySem.F.slot_list_append PySem.F.type_list_append mt_append (pv 3) (pa_cons (pv 4) pa_nil)))
    (pss_one (ps_asg (pe_op op_sub (pe_ix ix_list (pv 2) (pv 4) (fun _ _ => rfl)) pe_int) (pg_sub (pv 2) (pv 4) set_list))))
      pss_nil)))
    (pss_one (ps_ret (pv 3)))))), ?_⟩
  refine ⟨_, rfl, _, rfl, (by show 2 ≤ sizeLine; decide), fun lf hlf => ⟨Nat.zero_le _, fun fo hfo => ?_⟩⟩
  have s1 := same_new hlf (.lst [V.int (many : Int), V.int (many : Int)])
  have s2 := s1.trans (same_new hfo (.lst []))
  have nlf : lf ≠ fo := ne_of_none upd_same hfo
  have flf : H lf = none := hlf
  have ffo : H fo = none := s1.free hfo
  have lenH : (hl hs).length = hs.length := List.length_map _
  have hlf1 : (upd (upd H lf (.lst [V.int (many : Int), V.int (many : Int)])) fo (.lst [])) lf = some (.lst [.int ((many - (hs.take 0).count 0 : Nat) : Int), .int ((many - (hs.take 0).count 1 : Nat) : Int)]) := by rw [upd_ne nlf]; exact upd_same
  refine ⟨_, rfl, p, rfl, ⟨_, s2.seq hS⟩, for_list (K := K) (a := p) (xs := hl hs) (fun i σ Hc => ∃ g, σ = [some (.ref p), some (.int (many : Int)), some (.ref lf), some (.ref fo), g] ∧ Same H Hc ∧ Hc lf = some (.lst [.int ((many - (hs.take i).count 0 : Nat) : Int), .int ((many - (hs.take i).count 1 : Nat) : Int)]) ∧ Hc fo = some (.lst (hl (fsn many hs i)))) ⟨none, rfl, s2, hlf1, upd_same⟩ ?_ ?_ ?_⟩
  · rintro i σ Hc _ ⟨g, _, s3, _⟩
    exact s3.seq hS
  · rintro i x σ Hc hx ⟨g, rfl, s3, h1, h2⟩
    obtain ⟨z, rfl, hz1⟩ := hl_at hx
    have hz2 : z < 2 := hh z (List.mem_of_getElem? hz1)
    have hi : i < hs.length := (List.getElem?_eq_some_iff.mp hz1).1
    have ez : hs.getD i 0 = z := by rw [List.getD_eq_getElem?_getD, hz1]; rfl
    refine ⟨_, rfl, _, rfl, lf, _, _, _, rfl, rfl, SqL.of h1, at_two (fun j => V.int ((many - (hs.take i).count j : Nat) : Int)) hz2, _, _, rfl, rfl, _, rfl, ?_⟩
    have cstep : ∀ j, (hs.take (i + 1)).count j = (hs.take i).count j + (if j = z then 1 else 0) := fun j => by
      rw [take_next hi, ez, List.count_append, List.count_singleton]
      by_cases e : j = z
      · subst e; simp
      · have : ¬ z = j := fun q => e q.symm
        simp [e, this]
    have fstep : fsn many hs (i + 1) = if (hs.take i).count z < many then fsn many hs i ++ [z] else fsn many hs i := by
      show (if (hs.take i).count (hs.getD i 0) < many then fsn many hs i ++ [hs.getD i 0] else fsn many hs i) = _
      rw [ez]
    refine ite2 (fun c1 => ?_) (fun c1 => ?_)
    · have c2 : (0 : Int) < ((many - (hs.take i).count z : Nat) : Int) := of_decide_eq_true c1
      have c3 : (hs.take i).count z < many := by omega
      have hsz : (hl (fsn many hs i)).length < sizeLine := by
        unfold hl
        rw [List.length_map]
        have := fsn_len many hs i
        exact Nat.lt_of_le_of_lt (show _ ≤ 40 by omega) (by decide)
      refine ⟨_, rfl, .inl ⟨rfl, _, SqL.of h2⟩, _, rfl, fo, _, _, rfl, rfl, h2, hsz, ?_⟩
      have h1' : (upd Hc fo (.lst (hl (fsn many hs i) ++ [V.int (z : Int)]))) lf = some (.lst [.int ((many - (hs.take i).count 0 : Nat) : Int), .int ((many - (hs.take i).count 1 : Nat) : Int)]) := by rw [upd_ne nlf]; exact h1
      refine ⟨_, rfl, _, rfl, lf, _, _, _, rfl, rfl, SqL.of h1', at_two (fun j => V.int ((many - (hs.take i).count j : Nat) : Int)) hz2, _, _, rfl, rfl, _, rfl, _, rfl, lf, [.int ((many - (hs.take i).count 0 : Nat) : Int), .int ((many - (hs.take i).count 1 : Nat) : Int)], _, z, rfl, rfl, h1', ixN_two hz2, ?_⟩
      refine ⟨_, rfl, same_upd (same_upd s3 ffo) flf, ?_, ?_⟩
      · rw [upd_same]
        show some (HO.lst (([V.int ((many - (hs.take i).count 0 : Nat) : Int), V.int ((many - (hs.take i).count 1 : Nat) : Int)]).set z (V.int (((many - (hs.take i).count z : Nat) : Int) - 1)))) = _
        rw [show ((many - (hs.take i).count z : Nat) : Int) - 1 = ((many - (hs.take i).count z - 1 : Nat) : Int) by omega, ints_set (fun j => many - (hs.take i).count j) hz2]
        have u : ∀ j, upf (fun j => many - (hs.take i).count j) z (many - (hs.take i).count z - 1) j = many - (hs.take (i + 1)).count j := fun j => by
          rw [cstep]
          by_cases e : j = z
          · subst e; rw [upf_same, if_pos rfl]; omega
          · rw [upf_ne e, if_neg e]; rfl
        rw [u, u]
      · rw [upd_ne nlf.symm, upd_same, hl_snoc, fstep, if_pos c3]
    · have c2 : ¬ (0 : Int) < ((many - (hs.take i).count z : Nat) : Int) := of_decide_eq_false (Bool.eq_false_iff.mpr c1)
      have c3 : ¬ (hs.take i).count z < many := by omega
      refine ⟨_, rfl, s3, ?_, by rw [fstep, if_neg c3]; exact h2⟩
      have u : ∀ j, many - (hs.take (i + 1)).count j = many - (hs.take i).count j := fun j => by
        rw [cstep]
        by_cases e : j = z
        · subst e; rw [if_pos rfl]; omega
        · rw [if_neg e]; rfl
      rw [u, u]
      exact h1
  · rintro σ Hc ⟨g, rfl, s3, h1, h2⟩
    rw [lenH] at h2
    exact ⟨_, rfl, q fo Hc s3 ffo h2⟩
theorem scAhead : FnScope ["_law_thing", "_law_deep", "_law_turn"] ["_law_thing", "_law_deep"] (defScope s__law_ahead) := ⟨rfl, rfl, rfl, by decide +kernel, rfl, by decide +kernel, by decide +kernel⟩
theorem ok_ahead {f : Addr} {fd : FuncData} (F : Fun K "_law_ahead" "_law_ahead" s__law_ahead f fd) (T : Txt K mg) : FnOk P w K mg base CX0 1 f fd ["_law_thing", "_law_deep"] spAhead := by
  refine F.ok scAhead (fun vs H Q E h => ?_) (fun cdv A outer s H vs Q E hr h => ?_)
  · obtain ⟨v, d, n, r, h, u, rfl, _⟩ := h
    rfl
  obtain ⟨v, d, n, r, h, u, rfl, hk, hu, hn, hr5, q⟩ := h
  have nd := scAhead.nd
  refine ⟨_, (pss_cons (ps_for PassesOwn.never (by rfl) (pi_range1 (by rfl) T.range (pa_cons (pv 1) pa_nil)) (pg_name (i := 2) nd rfl (Or.inl rfl))
      (pss_one (ps_set (i := 0) nd rfl (Or.inl rfl) (pe_ix ix_tup (pv 0) pe_int (fun _ _ => rfl)))))
    (pss_one (ps_ret (pv 0)))), ?_⟩
  refine ⟨_, rfl, _, rfl, by omega, by omega, for_range (n := n) (fun i σ Hc => ∃ (v' : V) (g : Option V), σ = [some v', some (.int (n : Int)), g] ∧ Hc = H ∧ Kn H v' (pre i d)) ⟨v, none, rfl, rfl, hk⟩ ?_ ?_⟩
  · rintro i σ Hc hi ⟨v', g, rfl, rfl, kv⟩
    obtain ⟨u', e'⟩ := stand_pre (i := i) hu (by omega)
    obtain ⟨r', er⟩ : ∃ r', r - i = r' + 1 := ⟨r - i - 1, by omega⟩
    rw [er] at e'
    obtain ⟨x, y, _, ep, _⟩ := standS e'
    rw [ep] at kv
    cases kv with
    | @tup a x' y' _ _ ha kx ky =>
      refine ⟨_, rfl, a, _, _, _, rfl, rfl, SqT.of ha, (by rfl), x', _, rfl, rfl, ?_⟩
      rw [pre_next, ep]
      exact kx
  · rintro σ Hc ⟨v', g, rfl, rfl, kv⟩
    exact ⟨_, rfl, q v' kv⟩
end
end TA

set_option Elab.async false
set_option maxRecDepth 100000
set_option maxHeartbeats 4000000
namespace TA
open PySem L2 PyProof.Rows
set_option linter.unusedVariables false
theorem res_shaped (a b : Int) {hs : List Nat} (q : ∀ h ∈ hs, h < 2) (hz : hs.length ≤ 40) (d : Nat) {h : Nat} (hh : h < 2) : Ok 41 (((M0 a b).run hs).res d h) :=
  (M.res_ok (M.ok_run (M.ok0 a b) (by decide) q) (by omega) d hh).up (by omega)
theorem stand_place {r : Nat} {d : PyData} {h : Nat} {u : Stands} (e : stand r d h = some u) (hr : r ≤ 5) : placeD d h = some u.1 := by
  unfold placeD
  rw [stand_rb e 5, show min 5 r = r by omega, e]
  rfl
theorem WellAt.ne {Hc : Hp} {a q : Addr} {n : Int} (w : WellAt Hc a n) (h : Hc q = none) : q ≠ a := by
  obtain ⟨_, _, _, e, _⟩ := w
  exact (ne_of_none e h).symm
/-- the first steps, known so many rounds behind -/
theorem first_res {a b : Int} {hs : List Nat} {d few h : Nat} (q : ∀ h ∈ hs, h < 2) (hh : h < 2) (ha : 0 ≤ a) (hb : 0 ≤ b) (full : ∀ h < 2, hs.count h = 2 * d) (hf : few ≤ d) :
    ((M0 a b).run (fsn (2 * few) hs hs.length)).res few h = pre (d - few) (((M0 a b).run hs).k h) := by
  have S := sim_run a b few q hs.length (Nat.le_refl _)
  rw [List.take_length] at S
  have c := fsn_count (2 * few) hs h hs.length (Nat.le_refl _)
  rw [List.take_length, full h hh] at c
  have dn : ((M0 a b).run (fsn (2 * few) hs hs.length)).done h = 2 * few := by rw [M.done_run, c]; show 0 + 0 + _ = _; omega
  unfold M.res
  rw [if_pos dn, S.k h hh]
  obtain ⟨R, N⟩ := run_both ha hb q (Rel.zero ha hb) Nb.zero
  rw [R.l h hh, (behind ha hb q hh (full h hh)).2.2.2]
theorem first_count {hs : List Nat} {d few : Nat} (full : ∀ h < 2, hs.count h = 2 * d) (hf : few ≤ d) : ∀ h < 2, (fsn (2 * few) hs hs.length).count h ≤ 2 * few := fun h hh => by
  have c := fsn_count (2 * few) hs h hs.length (Nat.le_refl _)
  rw [c]
  omega
/-- what was seen last: nothing, or what the other one knew a round ahead -/
theorem seen_last {a b : Int} {hs : List Nat} {d h : Nat} (q : ∀ h ∈ hs, h < 2) (hh : h < 2) (ha : 0 ≤ a) (hb : 0 ≤ b) (full : ∀ h < 2, hs.count h = 2 * d) (hd : 1 ≤ d) :
    ∃ x y, ((M0 a b).run hs).k h = .tuple [x, y] ∧ (y = .none ∨ y = fst0 (((M0 a b).run hs).k (1 - h))) := by
  have ho : 1 - h < 2 := by omega
  have p := Kp.run a b q (M.wf0 a b) (Kp.zero a b)
  obtain ⟨R, N⟩ := run_both ha hb q (Rel.zero ha hb) Nb.zero
  have l0 : ((M0 a b).run hs).l h = d := by rw [R.l h hh, (behind ha hb q hh (full h hh)).2.2.2]
  have l1 : ((M0 a b).run hs).l (1 - h) = d := by rw [R.l (1 - h) ho, (behind ha hb q ho (full (1 - h) ho)).2.2.2]
  obtain ⟨x, y, e, z⟩ := p.s h hh (by omega)
  refine ⟨x, y, e, ?_⟩
  rcases z with z | ⟨z1, z2⟩
  · exact .inl z
  · right
    rw [z2, p.c (1 - h) ho _ z1, l0, l1, show d - (d - 1) = 1 by omega]
    rfl
structure RS (H Hc : Hp) (a wo so lo : Addr) (d few : Nat) (k : Nat → PyData) (v u z : Nat → V) : Prop where
  b : But a H Hc
  ho : Hc wo = some (.lst [v 0, v 1])
  hso : Hc so = some (.lst [u 0, u 1])
  hl : Hc lo = some (.lst [z 0, z 1])
  kv : ∀ h < 2, Kn Hc (v h) (k h)
  ku : ∀ h < 2, Kn Hc (u h) (pre (d - few) (k h))
  kz : ∀ h < 2, Kn Hc (z h) (fst0 (k h))
theorem RS.same {H Hc H' : Hp} {a wo so lo : Addr} {d few : Nat} {k : Nat → PyData} {v u z : Nat → V} (R : RS H Hc a wo so lo d few k v u z) (s : Same Hc H') : RS H H' a wo so lo d few k v u z :=
  ⟨R.b.trans (But.same s), s _ _ R.ho, s _ _ R.hso, s _ _ R.hl, fun h hh => (R.kv h hh).mono (Tups.same s), fun h hh => (R.ku h hh).mono (Tups.same s), fun h hh => (R.kz h hh).mono (Tups.same s)⟩
section
variable {P : Program} {w : World} {K : PySem.W.Frag} {mg : Str → Option Value} {base : Heap}
abbrev nRight : List Str := ["_law_well_here", "_law_deep", "_law_inputs", "_law_weaving_here", "_law_whole", "_law_few", "_law_some", "_law_last", "_law_hand", "_law_moved"]
theorem scRight : FnScope nRight ["_law_well_here"] (defScope sRight) := ⟨rfl, rfl, rfl, by decide +kernel, rfl, by decide +kernel, by decide +kernel⟩
theorem ok_right {f g1 g3 g5 g6 g7 g8 cN : Addr} {fd d1 d3 d5 d6 d7 d8 : FuncData} (F : Fun K "_law_right" "_law_right" sRight f fd) (T : Txt K mg) (D1 : Def P w K mg base "_law_draw" ["_law_well_here", "_law_many"] 1 spDraw2 g1 d1)
    (D3 : Def P w K mg base "_law_weaving" ["_law_well_here", "_law_deep", "_law_stops"] 3 spLW g3 d3) (D5 : KDef P w K mg base g5 d5) (D6 : PDef P w K mg base cN g6 d6) (D7 : Def P w K mg base "_law_first_steps" ["_law_weaving_here", "_law_many"] 1 (spFs K) g7 d7) (D8 : Def P w K mg base "_law_ahead" ["_law_thing", "_law_deep"] 1 spAhead g8 d8) :
    FnOk P w K mg base CX0 12 f fd ["_law_well_here"] spRight := by
  refine F.ok scRight (fun vs H Q E h => ?_) (fun cdv A outer s H vs Q E hr h => ?_)
  · obtain ⟨a, rfl, _⟩ := h
    rfl
  obtain ⟨a, rfl, hW, q⟩ := h
  have nd := scRight.nd
  have hu65 := hu65_of hr
  refine ⟨_, (pss_cons (ps_set (i := 1) nd rfl (Or.inl rfl) (pe_op op_add pe_int (pe_call D1.G (hr.mono (by decide)) rfl D1.m D1.k D1.b .nil pass0 (pa_cons (pv 0) (pa_cons pe_int pa_nil)))))
    (pss_cons (ps_set (i := 2) nd rfl (Or.inl rfl) (pe_tup (pa_cons (pe_call D1.G (hr.mono (by decide)) rfl D1.m D1.k D1.b .nil pass0 (pa_cons (pv 0) (pa_cons pe_int pa_nil))) (pa_cons (pe_call D1.G (hr.mono (by decide)) rfl D1.m D1.k D1.b .nil pass0 (pa_cons (pv 0) (pa_cons pe_int pa_nil))) pa_nil))))
    (pss_cons (ps_set (i := 3) nd rfl (Or.inl rfl) (pe_call D3.G (hr.mono (by decide)) rfl D3.m D3.k D3.b .nil pass0 (pa_cons (pv 0) (pa_cons (pv 1) (pa_cons pe_bl pa_nil)))))
    (pss_cons (ps_set (i := 4) nd rfl (Or.inl rfl) (pe_callN D5.G (hr.mono (by decide)) rfl D5.m D5.k D5.b pass0 (pa_cons (pv 2) (pa_cons (pv 3) pa_nil)) (pk_cons (pv 1) pk_nil)))
    (pss_cons (ps_set (i := 5) nd rfl (Or.inl rfl) (pe_call D1.G (hr.mono (by decide)) rfl D1.m D1.k D1.b .nil pass0 (pa_cons (pv 0) (pa_cons (pv 1) pa_nil))))
    (pss_cons (ps_set (i := 6) nd rfl (Or.inl rfl) (pe_callN D5.G (hr.mono (by decide)) rfl D5.m D5.k D5.b pass0 (pa_cons (pv 2) (pa_cons (pe_call D7.G (hr.mono (by decide)) rfl D7.m D7.k D7.b .nil pass0 (pa_cons (pv 3) (pa_cons (pe_op op_mul pe_int (pv 5)) pa_nil))) pa_nil)) (pk_cons (pv 5) pk_nil)))
    (pss_cons (ps_set (i := 7) nd rfl (Or.inl rfl) (pe_callN D5.G (hr.mono (by decide)) rfl D5.m D5.k D5.b pass0 (pa_cons (pv 2) (pa_cons (pe_call D7.G (hr.mono (by decide)) rfl D7.m D7.k D7.b .nil pass0 (pa_cons (pv 3) (pa_cons (pe_op op_sub (pe_op op_mul pe_int (pv 1)) pe_int) pa_nil))) pa_nil)) (pk_cons (pe_op op_sub (pv 1) pe_int) pk_nil)))
    (pss_cons (ps_for PassesOwn.never (by rfl) (pi_range1 (by rfl) T.range (pa_cons pe_int pa_nil)) (pg_name (i := 8) nd rfl (Or.inl rfl))
      (pss_cons (ps_if (pt_cmpR (op_neD hr.units) (pe_call D8.G (hr.mono (by decide)) rfl D8.m D8.k D8.b .nil pass0 (pa_cons (pe_ix ix_list (pv 4) (pv 8) (fun _ _ => rfl)) (pa_cons (pe_op op_sub (pv 1) (pv 5)) pa_nil))) (pe_ix ix_list (pv 6) (pv 8) (fun _ _ => rfl)) (nomark _))
      (pss_one (ps_ret pe_bl))
      pss_nil)
    (pss_cons (ps_if (PW.pt (pw_or (pt_cmpR (op_neD hr.units) (pe_ix ix_tup (pe_ix ix_list (pv 4) (pv 8) (fun _ _ => rfl)) pe_int (fun _ _ => rfl)) (pe_ix ix_list (pv 7) (pv 8) (fun _ _ => rfl)) (nomark _)) (pw_or1 (pt_cmpR (op_notInT hu65) (pe_ix ix_tup (pe_ix ix_list (pv 4) (pv 8) (fun _ _ => rfl)) pe_int (fun _ _ => rfl)) (pe_tup (pa_cons pe_non (pa_cons (pe_ix ix_list (pv 7) (pe_op op_sub pe_int (pv 8)) (fun _ _ => rfl)) pa_nil))) (by rfl)))))
      (pss_one (ps_ret pe_bl))
      pss_nil)
    (pss_cons (ps_set (i := 9) nd rfl (Or.inl rfl) (pe_op op_sub (pe_callS D6.G (hr.mono (by decide)) rfl D6.m D6.k D6.b (fun σ => passN σ) (pa_cons (pe_ix ix_list (pv 4) (pv 8) (fun _ _ => rfl)) (pa_cons (pv 8) pa_nil))) (pe_op op_mul pe_int (pe_callS D6.G (hr.mono (by decide)) rfl D6.m D6.k D6.b (fun σ => passN σ) (pa_cons (pe_ix ix_list (pv 7) (pv 8) (fun _ _ => rfl)) (pa_cons (pv 8) pa_nil))))))
    (pss_one (ps_if (PW.pt (pw_or (pt_cmpR op_notIn_seq (pv 9) (pe_tup (pa_cons (pe_un un_neg pe_int) (pa_cons pe_int (pa_cons pe_int pa_nil)))) (by rfl)) (pw_or1 (pt_cmpR op_ne (pe_cmpR op_eq (pv 9) pe_int (nomark _)) (pe_cmpR op_isN (pe_ix ix_tup (pe_ix ix_list (pv 4) (pv 8) (fun _ _ => rfl)) pe_int (fun _ _ => rfl)) pe_non (nomark _)) (nomark _)))))
      (pss_one (ps_ret pe_bl))
      pss_nil))))))
    (pss_one (ps_ret (pe_or (pe_cmpR op_notN (pe_ix ix_tup (pe_ix ix_list (pv 4) pe_int (fun _ _ => rfl)) pe_int (fun _ _ => rfl)) pe_non (nomark _)) (pe_one (pe_cmpR op_notN (pe_ix ix_tup (pe_ix ix_list (pv 4) pe_int (fun _ _ => rfl)) pe_int (fun _ _ => rfl)) pe_non (nomark _)))))))))))))), ?_⟩
  refine ⟨_, rfl, a, 0, 4, rfl, hW, by decide, by decide, by decide, fun r H1 r0 r1 b1 w1 => ?_⟩
  obtain ⟨d, ed, hd1, hd⟩ : ∃ d : Nat, (2 : Int) + r = (d : Int) ∧ 2 ≤ d ∧ d ≤ 5 := ⟨(2 + r).toNat, by omega, by omega, by omega⟩
  refine ⟨_, _, rfl, rfl, ?_⟩
  refine cast (congrArg (fun z : V => gName 1 z _ _ _) (show V.int (d : Int) = V.int (2 + r) by rw [ed])) ?_
  refine ⟨_, rfl, a, _, 4, rfl, w1, by decide, by decide, by decide, fun x H2 x0 x1 b2 w2 => ?_⟩
  refine ⟨_, rfl, a, _, 9, rfl, w2, by decide, by decide, by decide, fun y H3 y0 y1 b3 w3 => ?_⟩
  refine ⟨(by show 2 ≤ sizeLine; decide), fun t ht0 => ?_⟩
  have s4 := same_new ht0 (.tup [V.int x, V.int y])
  have w4 := w3.same s4
  have ht4 : (upd H3 t (.tup [V.int x, V.int y])) t = some (.tup [V.int x, V.int y]) := upd_same
  have b4 : But a H (upd H3 t (.tup [V.int x, V.int y])) := ((b1.trans b2).trans b3).trans (But.same s4)
  generalize upd H3 t (.tup [V.int x, V.int y]) = H4 at w4 ht4 b4 ⊢
  refine ⟨_, rfl, _, rfl, a, _, d, false, rfl, w4, by decide, hd, fun wv hs H5 b5 w5 hwv0 hwv hh hc hfu => ?_⟩
  have full := hfu rfl
  have c0 := full 0 (by decide)
  have c1 := full 1 (by decide)
  have hlen := len_counts hs hh
  have ht5 := b5.tups w4 _ _ ht4
  have nwv := w4.ne hwv0
  refine ⟨_, rfl, _, rfl, _, rfl, rfl, rfl, wv, hs, d, x, y, ⟨t, rfl, ht5, SqL.of hwv⟩, hh, hc, by omega, hd, x0, y0, fun wo v H6 s6 hwo0 hwo kv => ?_⟩
  have nwo := w5.ne hwo0
  have w6 := w5.same s6
  refine ⟨_, rfl, _, rfl, a, _, (d : Int), rfl, w6, by decide, by omega, by omega, fun fw H7 f0 f1 b7 w7 => ?_⟩
  obtain ⟨few, rfl, hfew⟩ : ∃ n : Nat, fw = (n : Int) ∧ n < d := ⟨fw.toNat, by omega, by omega⟩
  have ht7 := b7.tups w6 _ _ (s6 _ _ ht5)
  have hwv7 := b7 _ _ nwv (s6 _ _ hwv)
  have hwo7 := b7 _ _ nwo hwo
  have kv7 : ∀ h < 2, Kn H7 (v h) _ := fun h h2 => (kv h h2).mono (b7.tups w6)
  have bB : But a H H7 := ((b4.trans b5).trans (But.same s6)).trans b7
  clear kv hwo hwv ht5 ht4
  have fm : ∀ n, ∀ h ∈ fsn n hs hs.length, h < 2 := fun n => fsn_mem hh hs.length (Nat.le_refl _)
  have fl : ∀ n, (fsn n hs hs.length).length ≤ 40 := fun n => by have := fsn_len n hs hs.length; omega
  refine ⟨_, rfl, _, rfl, _, rfl, _, _, rfl, rfl, .inl ⟨by decide, by decide⟩, wv, hs, 2 * few, (by show [V.ref wv, V.int (2 * (few : Int))] = _; congr 2), SqL.of hwv7, hh, by omega, fun fo H8 s8 hfo0 hfo => ?_⟩
  refine ⟨_, rfl, rfl, rfl, fo, _, few, x, y, ⟨t, rfl, s8 _ _ ht7, SqL.of hfo⟩, fm _, first_count full (by omega), fl _, by omega, x0, y0, fun so u H9 s9 hso0 hso ku => ?_⟩
  have s89 := s8.trans s9
  refine ⟨_, rfl, _, rfl, _, rfl, _, _, rfl, rfl, .inl ⟨by decide, by decide⟩, _, _, rfl, rfl, wv, hs, 2 * (d - 1), (by show [V.ref wv, V.int (2 * (d : Int) - 2)] = _; rw [show (2 : Int) * (d : Int) - 2 = ((2 * (d - 1) : Nat) : Int) by omega]), SqL.of (s89 _ _ hwv7), hh, by omega, fun go H10 s10 hgo0 hgo => ?_⟩
  refine ⟨_, rfl, _, _, rfl, rfl, rfl, rfl, go, _, d - 1, x, y, ⟨t, (by show [V.ref t, V.ref go, V.int ((d : Int) - 1)] = _; rw [show (d : Int) - 1 = ((d - 1 : Nat) : Int) by omega]), (s89.trans s10) _ _ ht7, SqL.of hgo⟩, fm _, first_count full (by omega), fl _, by omega, x0, y0, fun lo z H11 s11 hlo0 hlo kz => ?_⟩
  have sA := s89.trans (s10.trans s11)
  have shU : ∀ h < 2, Ok 41 (pre (d - few) (((M0 x y).run hs).k h)) := fun h h2 => by
    rw [← first_res hh h2 x0 y0 full (by omega)]
    exact res_shaped x y (fm _) (fl _) few h2
  have shL : ∀ h < 2, Ok 41 (fst0 (((M0 x y).run hs).k h)) := fun h h2 => by
    have := first_res (few := d - 1) hh h2 x0 y0 full (by omega)
    rw [show d - (d - 1) = 1 by omega] at this
    have e : fst0 (((M0 x y).run hs).k h) = pre 1 (((M0 x y).run hs).k h) := rfl
    rw [e, ← this]
    exact res_shaped x y (fm _) (fl _) (d - 1) h2
  have RS0 : RS H H11 a wo so lo d few ((M0 x y).run hs).k v u z := by
    refine ⟨bB.trans (But.same sA), sA _ _ hwo7, (s10.trans s11) _ _ hso, hlo, fun h h2 => ?_, fun h h2 => ?_, fun h h2 => ?_⟩
    · rw [← (behind x0 y0 hh h2 (full h h2)).1]
      exact (kv7 h h2).mono (Tups.same sA)
    · rw [← first_res hh h2 x0 y0 full (by omega)]
      exact (ku h h2).mono (Tups.same (s10.trans s11))
    · have := first_res (few := d - 1) hh h2 x0 y0 full (by omega)
      rw [show d - (d - 1) = 1 by omega] at this
      have e : fst0 (((M0 x y).run hs).k h) = pre 1 (((M0 x y).run hs).k h) := rfl
      rw [e, ← this]
      exact kz h h2
  have near := cur_near x0 y0 hh c0 c1
  have know : ∀ h < 2, ∃ X Y, ((M0 x y).run hs).k h = .tuple [X, Y] ∧ (Y = .none ∨ Y = fst0 (((M0 x y).run hs).k (1 - h))) ∧ ∃ u0 : Stands, stand (d - 1) X h = some u0 ∧ placeD (((M0 x y).run hs).k h) h = some ((P0.run hs).cur h) ∧ ∃ uu, stand d (((M0 x y).run hs).k h) h = some uu ∧ ((isN Y = true ∧ (P0.run hs).cur h = 3 * u0.1) ∨ (isN Y = false ∧ ((P0.run hs).cur h = 3 * u0.1 + 2 ∨ (P0.run hs).cur h = 3 * u0.1 - 2))) := fun h h2 => by
    obtain ⟨X, Y, e, hY⟩ := seen_last hh h2 x0 y0 full (by omega)
    obtain ⟨_, A, _⟩ := behind x0 y0 hh h2 (full h h2)
    have pl := A.place hd
    obtain ⟨uu, eu, ec, _⟩ := A
    refine ⟨X, Y, e, hY, ?_⟩
    have eu' := eu
    rw [e, show d = (d - 1) + 1 by omega] at eu'
    obtain ⟨X', Y', u0, ed', e0, e1⟩ := standS eu'
    injection ed' with e3
    injection e3 with e4 e5
    injection e5 with e5 _
    subst e4 e5
    refine ⟨u0, e0, pl, uu, eu, ?_⟩
    rw [← ec]
    rcases e1 with ⟨n, rfl⟩ | ⟨n, vv, ev, em⟩
    · exact .inl ⟨n, rfl⟩
    · right
      obtain ⟨n1, _, _, rfl⟩ := metD_some em
      refine ⟨n, ?_⟩
      show 3 * u0.1 + 2 * (vv.1 - u0.1) = _ ∨ 3 * u0.1 + 2 * (vv.1 - u0.1) = _
      omega
  generalize ((M0 x y).run hs).k = k at RS0 know shU shL
  generalize (P0.run hs).cur = cur at near know
  refine ⟨2, rfl, by decide, by decide, for_range (n := 2) (fun i σ Hc => ∃ g8 g9, σ = [some (.ref a), some (.int (d : Int)), some (.ref t), some (.ref wv), some (.ref wo), some (.int (few : Int)), some (.ref so), some (.ref lo), g8, g9] ∧ RS H Hc a wo so lo d few k v u z) ⟨none, none, rfl, RS0⟩ ?_ ?_⟩
  · rintro i σ Hc hi ⟨g8, g9, rfl, R⟩
    have ei : (0 : Int) + (i : Int) = (i : Int) := by omega
    rw [ei]
    have hio : 1 - i < 2 := by omega
    have eo : (1 : Int) - (i : Int) = ((1 - i : Nat) : Int) := by omega
    obtain ⟨X, Y, ek, hY, u0, e0, pl, uu, eu, way⟩ := know i hi
    refine ⟨_, rfl, _, rfl, wo, _, _, _, rfl, rfl, SqL.of R.ho, at_two v hi, _, rfl, _, rfl, _, _, rfl, rfl, v i, k i, d - few, d, i, uu, (by show [v i, V.int ((d : Int) - (few : Int))] = _; rw [show (d : Int) - (few : Int) = ((d - few : Nat) : Int) by omega]), R.kv i hi, eu, by omega, hd, fun v' kv' => ?_⟩
    have sh1 := ((shU i hi).up (show 41 ≤ 64 by decide)).shaped
    refine ⟨_, rfl, _, rfl, so, _, _, _, rfl, rfl, SqL.of R.hso, at_two u hi, _, _, kv'.dp, (R.ku i hi).dp, sh1, sh1, _, rfl, ?_⟩
    refine iteF' (by show (!PyData.eqv _ _) = false; rw [eqv_self sh1]; rfl) ?_
    obtain ⟨aa, x', y', ev, hat, kx, ky⟩ : ∃ aa x' y', v i = .ref aa ∧ Hc aa = some (.tup [x', y']) ∧ Kn Hc x' X ∧ Kn Hc y' Y := by
      have kk := R.kv i hi
      rw [ek] at kk
      generalize v i = vi at kk
      cases kk with
      | tup h1 h2 h3 => exact ⟨_, _, _, rfl, h1, h2, h3⟩
    have eX : fst0 (k i) = X := by rw [ek]; rfl
    have shX := ((shL i hi).up (show 41 ≤ 64 by decide)).shaped
    rw [eX] at shX
    have kzi := R.kz i hi
    rw [eX] at kzi
    have at1 : atI [v 0, v 1] (i : Int) = some (.ref aa) := by rw [← ev]; exact at_two v hi
    refine ⟨_, rfl, _, rfl, wo, _, _, _, rfl, rfl, SqL.of R.ho, at1, aa, _, _, _, rfl, rfl, SqT.of hat, (by rfl), _, rfl, _, rfl, lo, _, _, _, rfl, rfl, SqL.of R.hl, at_two z hi, _, _, kx.dp, kzi.dp, shX, shX, _, rfl, ?_⟩
    refine iteF' (by show (!PyData.eqv _ _) = false; rw [eqv_self shX]; rfl) ?_
    -- what was seen last, among None and what the other one knew
    have okO := shL (1 - i) hio
    have okY : Ok 41 Y := by
      rcases hY with rfl | rfl
      · exact ok_none (by decide)
      · exact okO
    have shY := (okY.up (show 41 ≤ 64 by decide)).shaped
    have shT : SeqAt.shaped (.tuple [.none, fst0 (k (1 - i))]) = true := (((ok_none (by decide : 0 < 41)).pair okO).up (show 41 + 1 ≤ 64 by decide)).shaped
    refine ⟨_, rfl, _, rfl, wo, _, _, _, rfl, rfl, SqL.of R.ho, at1, aa, _, _, _, rfl, rfl, SqT.of hat, (by rfl), _, rfl, _, rfl, _, _, rfl, rfl, lo, _, _, _, rfl, rfl, SqL.of R.hl, (by rw [eo]; exact at_two z hio), (by show 2 ≤ sizeLine; decide), fun tt htt => ?_⟩
    have s1 := same_new htt (.tup [V.non, z (1 - i)])
    have R1 := R.same s1
    refine ⟨Y, _, (ky.mono (Tups.same s1)).dp, .tup (SqT.of upd_same) (.cons .non (.cons (R1.kz (1 - i) hio).dp .nil)), shY, shT, _, rfl, ?_⟩
    refine iteF' ?_ ?_
    · show (!(PyData.eqv .none Y || (PyData.eqv (fst0 (k (1 - i))) Y || false))) = false
      rcases hY with rfl | rfl
      · rfl
      · rw [eqv_self shY]; simp
    have hat1 := s1 _ _ hat
    have ky1 := ky.mono (Tups.same s1)
    have kx1 := kx.mono (Tups.same s1)
    clear kx ky hat R
    refine ⟨_, rfl, _, rfl, wo, _, _, _, rfl, rfl, SqL.of R1.ho, at_two v hi, _, rfl, v i, k i, i, rfl, R1.kv i hi, hi, (fun q => by rw [pl] at q; cases q), fun j hj H2' s2 => ?_⟩
    obtain rfl : cur i = j := by rw [pl] at hj; exact Option.some.inj hj
    have R2 := R1.same s2
    have kz2 := R2.kz i hi
    rw [eX] at kz2
    have pl0 := stand_place e0 (by omega)
    refine ⟨_, rfl, _, rfl, lo, _, _, _, rfl, rfl, SqL.of R2.hl, at_two z hi, _, rfl, z i, X, i, rfl, kz2, hi, (fun q => by rw [pl0] at q; cases q), fun j hj H3' s3 => ?_⟩
    obtain rfl : u0.1 = j := by rw [pl0] at hj; exact Option.some.inj hj
    have R3 := R2.same s3
    have hat3 := s3 _ _ (s2 _ _ hat1)
    refine ⟨_, _, rfl, rfl, .inl ⟨by decide, by decide⟩, _, _, rfl, rfl, ?_⟩
    have yN : decide (y' = .non) = isN Y := ky1.isNon
    refine ⟨_, rfl, _, rfl, (by show 3 ≤ sizeLine; decide), fun t3 ht3 => ?_⟩
    have s4' := same_new ht3 (.tup [V.int (-2), V.int 0, V.int 2])
    have mv : cur i - 3 * u0.1 = -2 ∨ cur i - 3 * u0.1 = 0 ∨ cur i - 3 * u0.1 = 2 := by
      rcases way with ⟨_, e⟩ | ⟨_, e | e⟩
      · omega
      · omega
      · omega
    refine ⟨t3, _, rfl, .inr (SqT.of upd_same), rfl, rfl, _, rfl, ?_⟩
    refine iteF' ?_ ?_
    · show (!inV (V.int (cur i - 3 * u0.1)) [V.int (-2), V.int 0, V.int 2]) = false
      rcases mv with e | e | e
      · rw [e]; rfl
      · rw [e]; rfl
      · rw [e]; rfl
    refine ⟨_, rfl, rfl, _, rfl, _, rfl, wo, _, _, _, rfl, rfl, SqL.of (s4' _ _ R3.ho), at1, aa, _, _, _, rfl, rfl, SqT.of (s4' _ _ hat3), (by rfl), rfl, rfl, _, rfl, ?_⟩
    refine iteF' ?_ ?_
    · show (!decide (V.bl (decide (V.int (cur i - 3 * u0.1) = V.int 0)) = V.bl (decide (y' = .non)))) = false
      rw [yN]
      have : decide (V.int (cur i - 3 * u0.1) = V.int 0) = isN Y := by
        rcases way with ⟨n, e⟩ | ⟨n, e⟩
        · rw [n, decide_eq_true (by rw [show cur i - 3 * u0.1 = 0 by omega])]
        · rw [n, decide_eq_false (fun q => by injection q with q; omega)]
      rw [this]
      simp
    exact ⟨_, _, rfl, R3.same s4'⟩
  · rintro σ Hc ⟨g8, g9, rfl, R⟩
    obtain ⟨X0, Y0, ek0, _, u0, _, _, _, _, way0⟩ := know 0 (by decide)
    obtain ⟨X1, Y1, ek1, _, u1, _, _, _, _, way1⟩ := know 1 (by decide)
    have obt : ∀ i < 2, ∀ X Y, k i = .tuple [X, Y] → ∃ aa x' y', v i = .ref aa ∧ Hc aa = some (.tup [x', y']) ∧ Kn Hc y' Y := fun i hi X Y e => by
      have kk := R.kv i hi
      rw [e] at kk
      generalize v i = vi at kk
      cases kk with
      | tup h1 h2 h3 => exact ⟨_, _, _, rfl, h1, h3⟩
    obtain ⟨a0, x0', y0', ev0, hat0, ky0⟩ := obt 0 (by decide) _ _ ek0
    obtain ⟨a1, x1', y1', ev1, hat1, ky1⟩ := obt 1 (by decide) _ _ ek1
    have at0 : atI [v 0, v 1] 0 = some (.ref a0) := by rw [← ev0]; rfl
    have at1 : atI [v 0, v 1] 1 = some (.ref a1) := by rw [← ev1]; rfl
    have n0 := ky0.isNon
    have n1 := ky1.isNon
    refine ⟨_, rfl, wo, _, _, _, rfl, rfl, SqL.of R.ho, at0, a0, _, _, _, rfl, rfl, SqT.of hat0, (by rfl), rfl, _, rfl, ?_⟩
    rw [n0]
    rcases way0 with ⟨z0, e0⟩ | ⟨z0, e0⟩
    · rw [z0]
      refine iteF ?_
      refine ⟨_, rfl, wo, _, _, _, rfl, rfl, SqL.of R.ho, at1, a1, _, _, _, rfl, rfl, SqT.of hat1, (by rfl), rfl, ?_⟩
      rw [n1]
      rcases way1 with ⟨z1, e1⟩ | ⟨z1, e1⟩
      · exfalso; omega
      · rw [z1]
        exact q _ R.b
    · rw [z0]
      exact iteT (q _ R.b)
end
end TA

set_option Elab.async false
set_option maxRecDepth 100000
set_option maxHeartbeats 4000000
namespace TA
open PySem L2 PyProof.Rows
set_option linter.unusedVariables false
def spLaw (K : PySem.W.Frag) : Sp := fun vs H Q _ => ∃ (a : Addr) (ns : List Int), vs = [.ref a] ∧ SqL K H a (ns.map V.int) ∧ ns.length ≤ 63 ∧ ∀ H', Q (.bl true) H'
theorem scLaw : FnScope ["_law_script", "_law_cell"] ["_law_script"] (defScope sLaw) := ⟨rfl, rfl, rfl, by decide +kernel, rfl, by decide +kernel, by decide +kernel⟩
theorem cut_ints {ns : List Int} {lo hi : Option Int} {x : V} (h : x ∈ cutV (ns.map V.int) lo hi) : ∃ c : Int, x = .int c := by
  unfold cutV at h
  have h1 := List.mem_of_mem_drop (List.mem_of_mem_take h)
  obtain ⟨c, _, e⟩ := List.mem_map.mp h1
  exact ⟨c, e.symm⟩
section
variable {P : Program} {w : World} {K : PySem.W.Frag} {mg : Str → Option Value} {base : Heap}
theorem ok_law {f g1 g2 g3 : Addr} {fd d1 d2 d3 : FuncData} (F : Fun K "law" "law" sLaw f fd) (D1 : Def P w K mg base "_law_cell_at" ["_law_script", "_law_k"] 1 (spCell K) g1 d1) (D2 : Def P w K mg base "_law_well" ["_law_cell"] 1 spWell g2 d2) (D3 : Def P w K mg base "_law_right" ["_law_well_here"] 12 spRight g3 d3) :
    FnOk P w K mg base CX0 13 f fd ["_law_script"] (spLaw K) := by
  refine F.ok scLaw (fun vs H Q E h => ?_) (fun cdv A outer s H vs Q E hr h => ?_)
  · obtain ⟨a, ns, rfl, _⟩ := h
    rfl
  obtain ⟨a, ns, rfl, hS, h63, q⟩ := h
  have nd := scLaw.nd
  refine ⟨_, pss_cons (ps_for PassesOwn.never rfl (pi_list (pe_op op_cat (pe_lst (pa_cons (pe_call D1.G (hr.mono (by decide)) rfl D1.m D1.k D1.b .nil pass0 (pa_cons (pv 0) (pa_cons pe_int pa_nil))) pa_nil)) (pe_slice sl_list (pv 0) (po_some pe_int) (po_some pe_int)))) (pg_name (i := 1) nd rfl (Or.inl rfl))
      (pss_one (ps_if (pt_not (pt_val (pe_call D3.G hr rfl D3.m D3.k D3.b .nil pass0 (pa_cons (pe_call D2.G (hr.mono (by decide)) rfl D2.m D2.k D2.b .nil pass0 (pa_cons (pv 1) pa_nil)) pa_nil)))) (pss_one (ps_ret pe_bl)) pss_nil)))
    (pss_one (ps_ret pe_bl)), ?_⟩
  refine ⟨_, rfl, a, ns, 0, rfl, hS, by omega, Int.le_refl 0, fun c => ⟨(by show 1 ≤ sizeLine; decide), fun l hl0 => ?_⟩⟩
  have s1 := same_new hl0 (.lst [V.int c])
  refine ⟨_, rfl, _, rfl, _, rfl, a, _, rfl, s1.seq hS, fun p hp => ?_⟩
  have s2 := same_new hp (.lst (cutV (ns.map V.int) (some 1) (some 8)))
  have hcl := cutV_length (ns.map V.int) (some 1) (some 8)
  rw [List.length_map] at hcl
  refine ⟨l, p, _, _, rfl, rfl, s2 _ _ upd_same, upd_same, small13 (by show 1 + _ ≤ _; omega), fun ct hct => ?_⟩
  refine ⟨ct, rfl, ⟨_, SqL.of upd_same⟩, for_list (K := K) (a := ct) (xs := [V.int c] ++ cutV (ns.map V.int) (some 1) (some 8)) (fun i σ Hc => ∃ g, σ = [some (.ref a), g] ∧ Hc ct = some (.lst ([V.int c] ++ cutV (ns.map V.int) (some 1) (some 8)))) ⟨none, rfl, upd_same⟩ ?_ ?_ ?_⟩
  · rintro i σ Hc _ ⟨g, _, h⟩
    exact SqL.of h
  · rintro i x σ Hc hx ⟨g, rfl, h⟩
    obtain ⟨z, rfl⟩ : ∃ z : Int, x = .int z := by
      rcases List.mem_append.mp (List.mem_of_getElem? hx) with m | m
      · exact ⟨c, by simpa using m⟩
      · exact cut_ints m
    refine ⟨_, rfl, z, rfl, fun w x y hw hx hy hy2 => ?_⟩
    have nw : ct ≠ w := ne_of_none h hw
    refine ⟨w, rfl, ⟨x, y, 0, upd_same, hx, hy, hy2, Int.le_refl 0, Int.le_refl 0⟩, fun H' b => ?_⟩
    refine ⟨true, rfl, iteF ?_⟩
    exact ⟨_, rfl, b _ _ nw (by rw [upd_ne nw]; exact h)⟩
  · rintro σ Hc ⟨g, rfl, h⟩
    exact q _
end
end TA

set_option Elab.async false
set_option maxRecDepth 100000
set_option maxHeartbeats 4000000
set_option linter.unusedVariables false
namespace TA
open PySem PySem.Spec L2 PyProof.Rows
/-! what the top leaves, as tests that run -/
def raiseB (K : PySem.W.Frag) (C : Addr) : Bool := decide (PySem.W.subIn K (.ref C) (.type "BaseException") = some true) && decide (PySem.W.typeIn K (.ref C) = some (.type "type"))
theorem raiseB_ok {K : PySem.W.Frag} {mg : Str → Option Value} {n : Str} {C : Addr} (h : raiseB K C = true) (m : mg n = some (.ref C)) (x : PySem.W.excIn K C [.type "ValueError", .type "Exception", .type "BaseException", .type "object"] "ValueError.__new__" = true) (k : PySem.W.keepIn K (.ref C) = true) : RaiseC K mg n C := by
  obtain ⟨a, b⟩ := Bool.and_eq_true_iff.mp h
  exact ⟨m, x, k, of_decide_eq_true a, of_decide_eq_true b⟩
theorem all_mk {l : PySem.W.OpenLaw} {w : World} {K : PySem.W.Frag} {h : Heap} {mg : Str → Option Value} {fa f1 f2 f3 f4 f5 f6 f7 f8 f9 f10 f11 f12 f13 f14 f15 f16 f17 f18 f19 f20 f21 hA0 cN : Addr} (X : K.In h) (G : h.Ns mainGlobals mg) (hfa : mg "law" = some (.ref fa))
    {od1 an1 od2 an2 od3 an3 od4 an4 od5 an5 od6 an6 od7 an7 od8 an8 od9 an9 od10 an10 od11 an11 od12 an12 od13 an13 od14 an14 od15 an15 od16 an16 od17 an17 od18 an18 od19 an19 od20 an20 od21 an21 odH0 : Option Addr} {sl1 sl2 sl3 sl4 sl5 sl6 sl7 sl8 sl9 sl10 sl11 sl12 sl13 sl14 sl15 sl16 sl17 sl18 sl19 sl20 sl21 slH0 : Array (Option Value)} {oc1 kV1 dc1 pm1 cd1 ct1 oc2 kV2 dc2 pm2 cd2 ct2 oc3 kV3 dc3 pm3 cd3 ct3 oc4 kV4 dc4 pm4 cd4 ct4 oc5 kV5 dc5 pm5 cd5 ct5 oc6 kV6 dc6 pm6 cd6 ct6 oc7 kV7 dc7 pm7 cd7 ct7 oc8 kV8 dc8 pm8 cd8 ct8 oc9 kV9 dc9 pm9 cd9 ct9 oc10 kV10 dc10 pm10 cd10 ct10 oc11 kV11 dc11 pm11 cd11 ct11 oc12 kV12 dc12 pm12 cd12 ct12 oc13 kV13 dc13 pm13 cd13 ct13 oc14 kV14 dc14 pm14 cd14 ct14 oc15 kV15 dc15 pm15 cd15 ct15 oc16 kV16 dc16 pm16 cd16 ct16 oc17 kV17 dc17 pm17 cd17 ct17 oc18 kV18 dc18 pm18 cd18 ct18 oc19 kV19 dc19 pm19 cd19 ct19 oc20 kV20 dc20 pm20 cd20 ct20 oc21 kV21 dc21 pm21 cd21 ct21 : Value} {tI0 tI1 tT0_0 tT0_1 : Tok} {nH0 : Nat}
    (a1 : PySem.W.nsIn K mainGlobals "is_whole" = some (some (.ref f1))) (l1 : K.lookup f1 = some ⟨oc1, od1, .func (PySem.W.fnOf "is_whole" "is_whole" (defArgs sWhole) (defBody sWhole) (defScope sWhole) .none kV1 dc1 pm1 an1 cd1 ct1), sl1⟩) (c1 : PySem.W.codeIn K cd1 "is_whole" = true) (k1 : PySem.W.keepIn K (.ref f1) = true)
    (a2 : PySem.W.nsIn K mainGlobals "is_whole_within" = some (some (.ref f2))) (l2 : K.lookup f2 = some ⟨oc2, od2, .func (PySem.W.fnOf "is_whole_within" "is_whole_within" (defArgs sWithin) (defBody sWithin) (defScope sWithin) .none kV2 dc2 pm2 an2 cd2 ct2), sl2⟩) (c2 : PySem.W.codeIn K cd2 "is_whole_within" = true) (k2 : PySem.W.keepIn K (.ref f2) = true)
    (a3 : PySem.W.nsIn K mainGlobals "is_hand" = some (some (.ref f3))) (l3 : K.lookup f3 = some ⟨oc3, od3, .func (PySem.W.fnOf "is_hand" "is_hand" (defArgs sHand) (defBody sHand) (defScope sHand) .none kV3 dc3 pm3 an3 cd3 ct3), sl3⟩) (c3 : PySem.W.codeIn K cd3 "is_hand" = true) (k3 : PySem.W.keepIn K (.ref f3) = true)
    (a4 : PySem.W.nsIn K mainGlobals "is_inputs" = some (some (.ref f4))) (l4 : K.lookup f4 = some ⟨oc4, od4, .func (PySem.W.fnOf "is_inputs" "is_inputs" (defArgs sInputs) (defBody sInputs) (defScope sInputs) .none kV4 dc4 pm4 an4 cd4 ct4), sl4⟩) (c4 : PySem.W.codeIn K cd4 "is_inputs" = true) (k4 : PySem.W.keepIn K (.ref f4) = true)
    (a5 : PySem.W.nsIn K mainGlobals "is_weaving" = some (some (.ref f5))) (l5 : K.lookup f5 = some ⟨oc5, od5, .func (PySem.W.fnOf "is_weaving" "is_weaving" (defArgs sWeaving) (defBody sWeaving) (defScope sWeaving) .none kV5 dc5 pm5 an5 cd5 ct5), sl5⟩) (c5 : PySem.W.codeIn K cd5 "is_weaving" = true) (k5 : PySem.W.keepIn K (.ref f5) = true)
    (a6 : PySem.W.nsIn K mainGlobals "put_in" = some (some (.ref f6))) (l6 : K.lookup f6 = some ⟨oc6, od6, .func (PySem.W.fnOf "put_in" "put_in" (defArgs sPut) (defBody sPut) (defScope sPut) .none kV6 dc6 pm6 an6 cd6 ct6), sl6⟩) (c6 : PySem.W.codeIn K cd6 "put_in" = true) (k6 : PySem.W.keepIn K (.ref f6) = true)
    (a7 : PySem.W.nsIn K mainGlobals "known" = some (some (.ref f7))) (l7 : K.lookup f7 = some ⟨oc7, od7, .func (PySem.W.fnOf "known" "known" (defArgs sKnown) (defBody sKnown) (defScope sKnown) .none kV7 dc7 pm7 an7 cd7 ct7), sl7⟩) (c7 : PySem.W.codeIn K cd7 "known" = true) (k7 : PySem.W.keepIn K (.ref f7) = true)
    (a8 : PySem.W.nsIn K mainGlobals "rounds_behind" = some (some (.ref f8))) (l8 : K.lookup f8 = some ⟨oc8, od8, .func (PySem.W.fnOf "rounds_behind" "rounds_behind" (defArgs s_rounds_behind) (defBody s_rounds_behind) (defScope s_rounds_behind) .none kV8 dc8 pm8 an8 cd8 ct8), sl8⟩) (c8 : PySem.W.codeIn K cd8 "rounds_behind" = true) (k8 : PySem.W.keepIn K (.ref f8) = true)
    (a9 : PySem.W.nsIn K mainGlobals "agrees" = some (some (.ref f9))) (l9 : K.lookup f9 = some ⟨oc9, od9, .func (PySem.W.fnOf "agrees" "agrees" (defArgs s_agrees) (defBody s_agrees) (defScope s_agrees) .none kV9 dc9 pm9 an9 cd9 ct9), sl9⟩) (c9 : PySem.W.codeIn K cd9 "agrees" = true) (k9 : PySem.W.keepIn K (.ref f9) = true)
    (a10 : PySem.W.nsIn K mainGlobals "met" = some (some (.ref f10))) (l10 : K.lookup f10 = some ⟨oc10, od10, .func (PySem.W.fnOf "met" "met" (defArgs s_met) (defBody s_met) (defScope s_met) .none kV10 dc10 pm10 an10 cd10 ct10), sl10⟩) (c10 : PySem.W.codeIn K cd10 "met" = true) (k10 : PySem.W.keepIn K (.ref f10) = true)
    (a11 : PySem.W.nsIn K mainGlobals "standing" = some (some (.ref f11))) (l11 : K.lookup f11 = some ⟨oc11, od11, .func (PySem.W.fnOf "standing" "standing" (defArgs s_standing) (defBody s_standing) (defScope s_standing) .none kV11 dc11 pm11 an11 cd11 ct11), sl11⟩) (c11 : PySem.W.codeIn K cd11 "standing" = true) (k11 : PySem.W.keepIn K (.ref f11) = true)
    (a12 : PySem.W.nsIn K mainGlobals "place" = some (some (.ref f12))) (l12 : K.lookup f12 = some ⟨oc12, od12, .func (PySem.W.fnOf "place" "place" (defArgs sPlace) (defBody sPlace) (defScope sPlace) .none kV12 dc12 pm12 an12 cd12 ct12), sl12⟩) (c12 : PySem.W.codeIn K cd12 "place" = true) (k12 : PySem.W.keepIn K (.ref f12) = true)
    (a13 : PySem.W.nsIn K mainGlobals "_law_cell_at" = some (some (.ref f13))) (l13 : K.lookup f13 = some ⟨oc13, od13, .func (PySem.W.fnOf "_law_cell_at" "_law_cell_at" (defArgs sCell) (defBody sCell) (defScope sCell) .none kV13 dc13 pm13 an13 cd13 ct13), sl13⟩) (c13 : PySem.W.codeIn K cd13 "_law_cell_at" = true) (k13 : PySem.W.keepIn K (.ref f13) = true)
    (a14 : PySem.W.nsIn K mainGlobals "_law_well" = some (some (.ref f14))) (l14 : K.lookup f14 = some ⟨oc14, od14, .func (PySem.W.fnOf "_law_well" "_law_well" (defArgs sWell) (defBody sWell) (defScope sWell) .none kV14 dc14 pm14 an14 cd14 ct14), sl14⟩) (c14 : PySem.W.codeIn K cd14 "_law_well" = true) (k14 : PySem.W.keepIn K (.ref f14) = true)
    (a15 : PySem.W.nsIn K mainGlobals "_law_draw" = some (some (.ref f15))) (l15 : K.lookup f15 = some ⟨oc15, od15, .func (PySem.W.fnOf "_law_draw" "_law_draw" (defArgs sDraw) (defBody sDraw) (defScope sDraw) .none kV15 dc15 pm15 an15 cd15 ct15), sl15⟩) (c15 : PySem.W.codeIn K cd15 "_law_draw" = true) (k15 : PySem.W.keepIn K (.ref f15) = true)
    (a16 : PySem.W.nsIn K mainGlobals "_law_one" = some (some (.ref f16))) (l16 : K.lookup f16 = some ⟨oc16, od16, .func (PySem.W.fnOf "_law_one" "_law_one" (defArgs sOne) (defBody sOne) (defScope sOne) .none kV16 dc16 pm16 an16 cd16 ct16), sl16⟩) (c16 : PySem.W.codeIn K cd16 "_law_one" = true) (k16 : PySem.W.keepIn K (.ref f16) = true)
    (a17 : PySem.W.nsIn K mainGlobals "_law_weaving" = some (some (.ref f17))) (l17 : K.lookup f17 = some ⟨oc17, od17, .func (PySem.W.fnOf "_law_weaving" "_law_weaving" (defArgs sLawWeav) (defBody sLawWeav) (defScope sLawWeav) .none kV17 dc17 pm17 an17 cd17 ct17), sl17⟩) (c17 : PySem.W.codeIn K cd17 "_law_weaving" = true) (k17 : PySem.W.keepIn K (.ref f17) = true)
    (a18 : PySem.W.nsIn K mainGlobals "_law_first_steps" = some (some (.ref f18))) (l18 : K.lookup f18 = some ⟨oc18, od18, .func (PySem.W.fnOf "_law_first_steps" "_law_first_steps" (defArgs s__law_first_steps) (defBody s__law_first_steps) (defScope s__law_first_steps) .none kV18 dc18 pm18 an18 cd18 ct18), sl18⟩) (c18 : PySem.W.codeIn K cd18 "_law_first_steps" = true) (k18 : PySem.W.keepIn K (.ref f18) = true)
    (a19 : PySem.W.nsIn K mainGlobals "_law_ahead" = some (some (.ref f19))) (l19 : K.lookup f19 = some ⟨oc19, od19, .func (PySem.W.fnOf "_law_ahead" "_law_ahead" (defArgs s__law_ahead) (defBody s__law_ahead) (defScope s__law_ahead) .none kV19 dc19 pm19 an19 cd19 ct19), sl19⟩) (c19 : PySem.W.codeIn K cd19 "_law_ahead" = true) (k19 : PySem.W.keepIn K (.ref f19) = true)
    (a20 : PySem.W.nsIn K mainGlobals "_law_right" = some (some (.ref f20))) (l20 : K.lookup f20 = some ⟨oc20, od20, .func (PySem.W.fnOf "_law_right" "_law_right" (defArgs sRight) (defBody sRight) (defScope sRight) .none kV20 dc20 pm20 an20 cd20 ct20), sl20⟩) (c20 : PySem.W.codeIn K cd20 "_law_right" = true) (k20 : PySem.W.keepIn K (.ref f20) = true)
    (a21 : PySem.W.nsIn K mainGlobals "law" = some (some (.ref f21))) (l21 : K.lookup f21 = some ⟨oc21, od21, .func (PySem.W.fnOf "law" "law" (defArgs sLaw) (defBody sLaw) (defScope sLaw) .none kV21 dc21 pm21 an21 cd21 ct21), sl21⟩) (c21 : PySem.W.codeIn K cd21 "law" = true) (k21 : PySem.W.keepIn K (.ref f21) = true)
    (z0 : PySem.W.nsIn K mainGlobals "isinstance" = some none)
    (z1 : PySem.W.nsIn K mainGlobals "int" = some none)
    (z2 : PySem.W.nsIn K mainGlobals "bool" = some none)
    (z3 : PySem.W.nsIn K mainGlobals "len" = some none)
    (z4 : PySem.W.nsIn K mainGlobals "range" = some none)
    (z5 : PySem.W.nsIn K mainGlobals "list" = some none)
    (z6 : PySem.W.nsIn K mainGlobals "tuple" = some none)
    (z7 : PySem.W.nsIn K mainGlobals "all" = some none)
    (z8 : PySem.W.nsIn K mainGlobals "sum" = some none)
    (z9 : PySem.W.nsIn K mainGlobals "min" = some none)
    (z10 : PySem.W.nsIn K mainGlobals "abs" = some none)
    (i0 : PySem.W.nsIn K mainGlobals "STEPS" = some (some (.int 2 tI0)))
    (i1 : PySem.W.nsIn K mainGlobals "MOST_ROUNDS" = some (some (.int 5 tI1)))
    (t0 : PySem.W.nsIn K mainGlobals "HANDS" = some (some (.ref hA0))) (u0 : K.lookup hA0 = some ⟨.type "tuple", odH0, .seq (Array.mk [.int 0 tT0_0, .int 1 tT0_1]) nH0, slH0⟩)
    (n0 : PySem.W.nsIn K mainGlobals "NoKnown" = some (some (.ref cN)))
    (q_cN : PySem.W.excIn K cN [.type "ValueError", .type "Exception", .type "BaseException", .type "object"] "ValueError.__new__" = true) (kk_cN : PySem.W.keepIn K (.ref cN) = true) (r_cN : raiseB K cN = true)
    : ∃ fd : FuncData, (∀ (s : Shared) (v : Value), BindsTo s fd ⟨[v], []⟩ [("_law_script", v)]) ∧ ∀ base : Heap, K.In base → base.Ns mainGlobals mg → FnOk l.prog w K mg base CX0 13 fa fd ["_law_script"] (spLaw K) := by
  have e := hfa.symm.trans (PySem.W.mg_of X G a21)
  cases e
  have F1 := fun_mk (st := sWhole) l1 c1 k1
  have b1 := F1.binds (ps := ["thing"]) fun _ _ _ _ _ _ us hl => match us, hl with | [_], _ => rfl
  have F2 := fun_mk (st := sWithin) l2 c2 k2
  have b2 := F2.binds (ps := ["thing", "least", "most"]) fun _ _ _ _ _ _ us hl => match us, hl with | [_, _, _], _ => rfl
  have F3 := fun_mk (st := sHand) l3 c3 k3
  have b3 := F3.binds (ps := ["thing"]) fun _ _ _ _ _ _ us hl => match us, hl with | [_], _ => rfl
  have F4 := fun_mk (st := sInputs) l4 c4 k4
  have b4 := F4.binds (ps := ["thing"]) fun _ _ _ _ _ _ us hl => match us, hl with | [_], _ => rfl
  have F5 := fun_mk (st := sWeaving) l5 c5 k5
  have b5 := F5.binds (ps := ["thing", "rounds"]) fun _ _ _ _ _ _ us hl => match us, hl with | [_, _], _ => rfl
  have F6 := fun_mk (st := sPut) l6 c6 k6
  have b6 := F6.binds (ps := ["cells", "at"]) fun _ _ _ _ _ _ us hl => match us, hl with | [_, _], _ => rfl
  have F7 := fun_mk (st := sKnown) l7 c7 k7
  have F8 := fun_mk (st := s_rounds_behind) l8 c8 k8
  have b8 := F8.binds (ps := ["thing"]) fun _ _ _ _ _ _ us hl => match us, hl with | [_], _ => rfl
  have F9 := fun_mk (st := s_agrees) l9 c9 k9
  have b9 := F9.binds (ps := ["one", "other"]) fun _ _ _ _ _ _ us hl => match us, hl with | [_, _], _ => rfl
  have F10 := fun_mk (st := s_met) l10 c10 k10
  have b10 := F10.binds (ps := ["own", "other"]) fun _ _ _ _ _ _ us hl => match us, hl with | [_, _], _ => rfl
  have F11 := fun_mk (st := s_standing) l11 c11 k11
  have b11 := F11.binds (ps := ["thing", "hand", "rounds"]) fun _ _ _ _ _ _ us hl => match us, hl with | [_, _, _], _ => rfl
  have F12 := fun_mk (st := sPlace) l12 c12 k12
  have b12 := F12.binds (ps := ["known", "hand"]) fun _ _ _ _ _ _ us hl => match us, hl with | [_, _], _ => rfl
  have F13 := fun_mk (st := sCell) l13 c13 k13
  have b13 := F13.binds (ps := ["_law_script", "_law_k"]) fun _ _ _ _ _ _ us hl => match us, hl with | [_, _], _ => rfl
  have F14 := fun_mk (st := sWell) l14 c14 k14
  have b14 := F14.binds (ps := ["_law_cell"]) fun _ _ _ _ _ _ us hl => match us, hl with | [_], _ => rfl
  have F15 := fun_mk (st := sDraw) l15 c15 k15
  have b15 := F15.binds (ps := ["_law_well_here", "_law_many"]) fun _ _ _ _ _ _ us hl => match us, hl with | [_, _], _ => rfl
  have F16 := fun_mk (st := sOne) l16 c16 k16
  have b16 := F16.binds (ps := ["_law_well_here", "_law_some"]) fun _ _ _ _ _ _ us hl => match us, hl with | [_, _], _ => rfl
  have F17 := fun_mk (st := sLawWeav) l17 c17 k17
  have b17 := F17.binds (ps := ["_law_well_here", "_law_deep", "_law_stops"]) fun _ _ _ _ _ _ us hl => match us, hl with | [_, _, _], _ => rfl
  have F18 := fun_mk (st := s__law_first_steps) l18 c18 k18
  have b18 := F18.binds (ps := ["_law_weaving_here", "_law_many"]) fun _ _ _ _ _ _ us hl => match us, hl with | [_, _], _ => rfl
  have F19 := fun_mk (st := s__law_ahead) l19 c19 k19
  have b19 := F19.binds (ps := ["_law_thing", "_law_deep"]) fun _ _ _ _ _ _ us hl => match us, hl with | [_, _], _ => rfl
  have F20 := fun_mk (st := sRight) l20 c20 k20
  have b20 := F20.binds (ps := ["_law_well_here"]) fun _ _ _ _ _ _ us hl => match us, hl with | [_], _ => rfl
  have F21 := fun_mk (st := sLaw) l21 c21 k21
  have m := fun {n : Str} {v : Value} (e : PySem.W.nsIn K mainGlobals n = some (some v)) => PySem.W.mg_of X G e
  have mz := fun {n : Str} (e : PySem.W.nsIn K mainGlobals n = some none) => PySem.W.mg_none_of X G e
  have T : Txt K mg := ⟨mz z0, mz z1, mz z2, mz z3, mz z4, mz z5, mz z6, mz z7, mz z8, mz z9⟩
  have U : Txt2 K mg := ⟨⟨_, m i0⟩, ⟨_, m i1⟩, ⟨_, m t0, fun H => .inr ⟨_, _, _, u0, rfl, rfl, (by show 2 ≤ sizeLine; decide), .cons ⟨_, rfl⟩ (.cons ⟨_, rfl⟩ .nil)⟩⟩⟩
  have B7 := kn_binds F7
  have R1 := raiseB_ok (mg := mg) r_cN (m n0) q_cN kk_cN
  refine ⟨PySem.W.fnOf "law" "law" (defArgs sLaw) (defBody sLaw) (defScope sLaw) .none kV21 dc21 pm21 an21 cd21 ct21, fun s v => .of_eq rfl, fun base _ _ => ?_⟩
  have e1 : Def l.prog w K mg base "is_whole" ["thing"] 1 spWhole f1 _ := ⟨ok_whole F1 T, b1, k1, m a1⟩
  have e1k : Def l.prog w K mg base "is_whole" ["thing"] 1 spWholeK f1 _ := ⟨ok_wholeK F1 T, b1, k1, m a1⟩
  have e2 : Def l.prog w K mg base "is_whole_within" ["thing", "least", "most"] 2 spWithin f2 _ := ⟨ok_within F2 e1.G e1.b e1.k e1.m, b2, k2, m a2⟩
  have e3 : Def l.prog w K mg base "is_hand" ["thing"] 3 spHand f3 _ := ⟨ok_hand F3 e2, b3, k3, m a3⟩
  have e4 : Def l.prog w K mg base "is_inputs" ["thing"] 2 spInputs f4 _ := ⟨ok_inputs F4 T e1, b4, k4, m a4⟩
  have e5 : Def l.prog w K mg base "is_weaving" ["thing", "rounds"] 4 (spWeaving K) f5 _ := ⟨ok_weaving F5 T U e3, b5, k5, m a5⟩
  have e6 : Def l.prog w K mg base "put_in" ["cells", "at"] 1 (spPut K) f6 _ := ⟨ok_put F6 T, b6, k6, m a6⟩
  have e7 : KDef l.prog w K mg base f7 _ := ⟨ok_known F7 T U e2 e4 e5 e6, B7, k7, m a7⟩
  have e8 : Def l.prog w K mg base "rounds_behind" ["thing"] 1 spRb f8 _ := ⟨ok_rb F8 T U, b8, k8, m a8⟩
  have e9 : Def l.prog w K mg base "agrees" ["one", "other"] 1 spAgr f9 _ := ⟨ok_agr F9, b9, k9, m a9⟩
  have e10 : Def l.prog w K mg base "met" ["own", "other"] 2 spMet f10 _ := ⟨ok_met F10 (mz z10) e9, b10, k10, m a10⟩
  have e11 := fun r => ok_stand (P := l.prog) (w := w) (base := base) F11 T e1k e10 b11 k11 (m a11) r
  have e12 : PDef l.prog w K mg base cN f12 _ := ⟨ok_place F12 R1 e3 e8 b11 k11 (m a11) (fun r _ => e11 r), b12, k12, m a12⟩
  have e13 : Def l.prog w K mg base "_law_cell_at" ["_law_script", "_law_k"] 1 (spCell K) f13 _ := ⟨ok_cell F13 T, b13, k13, m a13⟩
  have e14 : Def l.prog w K mg base "_law_well" ["_law_cell"] 1 spWell f14 _ := ⟨ok_well F14 T, b14, k14, m a14⟩
  have g15 := ok_draw (P := l.prog) (w := w) (mg := mg) (base := base) F15
  have e15 : Def l.prog w K mg base "_law_draw" ["_law_well_here", "_law_many"] 1 spDraw2 f15 _ := ⟨weak g15 draw_weak, b15, k15, m a15⟩
  have e16 : Def l.prog w K mg base "_law_one" ["_law_well_here", "_law_some"] 2 spOne2 f16 _ := ⟨weak (ok_one F16 T g15 b15 k15 (m a15)) one_weak, b16, k16, m a16⟩
  have e18 : Def l.prog w K mg base "_law_weaving" ["_law_well_here", "_law_deep", "_law_stops"] 3 spLW f17 _ := ⟨ok_lw F17 T e15 e16, b17, k17, m a17⟩
  have e19 : Def l.prog w K mg base "_law_first_steps" ["_law_weaving_here", "_law_many"] 1 (spFs K) f18 _ := ⟨ok_fs F18, b18, k18, m a18⟩
  have e20 : Def l.prog w K mg base "_law_ahead" ["_law_thing", "_law_deep"] 1 spAhead f19 _ := ⟨ok_ahead F19 T, b19, k19, m a19⟩
  have e21 : Def l.prog w K mg base "_law_right" ["_law_well_here"] 12 spRight f20 _ := ⟨ok_right F20 T e15 e18 e7 e12 e19 e20, b20, k20, m a20⟩
  exact ok_law F21 e13 e14 e21
theorem walk {l : PySem.W.OpenLaw} {q : Program} {loose : List Str} {XP : (Str → Option Value) → Heap → Prop} {YP : World → Heap → Prop} {d : DefRec} {K : Params → PySem.W.Frag} (hn : l.most = some 63) (hdf : d.params.defaults = [])
    (hY : ∀ (w : World) (h : Heap), YP w h → (K w.params).In h)
    (F : ∀ (w : World) (mg : Str → Option Value) (fa : Addr) (h : Heap), (K w.params).In h → h.Ns mainGlobals mg → mg d.name = some (.ref fa) →
      ∃ fd : FuncData, (∀ (s : Shared) (u : Value), BindsTo s fd ⟨[u], []⟩ [("_law_script", u)]) ∧ ∀ base : Heap, (K w.params).In base → base.Ns mainGlobals mg → FnOk l.prog w (K w.params) mg base CX0 13 fa fd ["_law_script"] (spLaw (K w.params))) :
    PySem.W.WalkO q loose XP YP l.row.toRowW d [] (fun f vs => PySem.call f vs) :=
  L2.walk_of (n := 63) (k := 13) (x := "_law_script") (CX := fun _ => CX0) (sp := fun w => spLaw (K w.params)) hn (by decide) hdf ⟨rfl, by decide, by decide⟩ hY F (fun _ _ a ns hl _ hS => ⟨a, ns, rfl, hS, hl, fun _ => rfl⟩) fun _ _ _ _ _ z => z
end TA
open PySem PySem.W PyProof.Rows
set_option maxRecDepth 100000 in
set_option maxHeartbeats 0 in
theorem PySem.Challenge.cw_twoalone_k18_whole_rounds_one_behind_the_holds : PySem.Challenge.rw_twoalone_k18_whole_rounds_one_behind_the.Holds := by
  w_on; o_law; k_head; (case hw => w_witness2)
  k_fill
  refine TA.walk (l := PySem.Challenge.rw_twoalone_k18_whole_rounds_one_behind_the) rfl rfl (fun w h Y => PySem.W.kIn_of Y) ?F
  case F =>
    intro w mg fa h KX G hmg
    refine' TA.all_mk KX G hmg ?a1 ?l1 ?c1 ?k1 ?a2 ?l2 ?c2 ?k2 ?a3 ?l3 ?c3 ?k3 ?a4 ?l4 ?c4 ?k4 ?a5 ?l5 ?c5 ?k5 ?a6 ?l6 ?c6 ?k6 ?a7 ?l7 ?c7 ?k7 ?a8 ?l8 ?c8 ?k8 ?a9 ?l9 ?c9 ?k9 ?a10 ?l10 ?c10 ?k10 ?a11 ?l11 ?c11 ?k11 ?a12 ?l12 ?c12 ?k12 ?a13 ?l13 ?c13 ?k13 ?a14 ?l14 ?c14 ?k14 ?a15 ?l15 ?c15 ?k15 ?a16 ?l16 ?c16 ?k16 ?a17 ?l17 ?c17 ?k17 ?a18 ?l18 ?c18 ?k18 ?a19 ?l19 ?c19 ?k19 ?a20 ?l20 ?c20 ?k20 ?a21 ?l21 ?c21 ?k21 ?z0 ?z1 ?z2 ?z3 ?z4 ?z5 ?z6 ?z7 ?z8 ?z9 ?z10 ?i0 ?i1 ?t0 ?u0 ?n0 ?q_cN ?kk_cN ?r_cN
    (case a1 => k_is); (case l1 => k_is); (case c1 => k_is); (case k1 => k_is); (case a2 => k_is); (case l2 => k_is); (case c2 => k_is); (case k2 => k_is); (case a3 => k_is); (case l3 => k_is); (case c3 => k_is); (case k3 => k_is); (case a4 => k_is); (case l4 => k_is); (case c4 => k_is); (case k4 => k_is); (case a5 => k_is); (case l5 => k_is); (case c5 => k_is); (case k5 => k_is); (case a6 => k_is); (case l6 => k_is); (case c6 => k_is); (case k6 => k_is); (case a7 => k_is); (case l7 => k_is); (case c7 => k_is); (case k7 => k_is); (case a8 => k_is); (case l8 => k_is); (case c8 => k_is); (case k8 => k_is); (case a9 => k_is); (case l9 => k_is); (case c9 => k_is); (case k9 => k_is); (case a10 => k_is); (case l10 => k_is); (case c10 => k_is); (case k10 => k_is); (case a11 => k_is); (case l11 => k_is); (case c11 => k_is); (case k11 => k_is); (case a12 => k_is); (case l12 => k_is); (case c12 => k_is); (case k12 => k_is); (case a13 => k_is); (case l13 => k_is); (case c13 => k_is); (case k13 => k_is); (case a14 => k_is); (case l14 => k_is); (case c14 => k_is); (case k14 => k_is); (case a15 => k_is); (case l15 => k_is); (case c15 => k_is); (case k15 => k_is); (case a16 => k_is); (case l16 => k_is); (case c16 => k_is); (case k16 => k_is); (case a17 => k_is); (case l17 => k_is); (case c17 => k_is); (case k17 => k_is); (case a18 => k_is); (case l18 => k_is); (case c18 => k_is); (case k18 => k_is); (case a19 => k_is); (case l19 => k_is); (case c19 => k_is); (case k19 => k_is); (case a20 => k_is); (case l20 => k_is); (case c20 => k_is); (case k20 => k_is); (case a21 => k_is); (case l21 => k_is); (case c21 => k_is); (case k21 => k_is); (case z0 => k_is); (case z1 => k_is); (case z2 => k_is); (case z3 => k_is); (case z4 => k_is); (case z5 => k_is); (case z6 => k_is); (case z7 => k_is); (case z8 => k_is); (case z9 => k_is); (case z10 => k_is); (case i0 => k_is); (case i1 => k_is); (case t0 => k_is); (case u0 => k_is); (case n0 => k_is); (case q_cN => k_exc); (case kk_cN => k_is); (case r_cN => kernel_rfl)
