import PyProof.Rows.All
import Wide.All
import OpenK.AllK
import Wide.FinOn
import HandS.ForMost
import HandS.IsInst
import HandS.SetFor
import HandS.Wide
import HandS.Defaults
import HandS.DictTup
import HandS.ExcIs
import HandS.ForExc
import HandS.More
import HandS.Deep
import PyProof.ReprRoads
import PyProof.CallFns
import PyProof.ReprLen
import KE.DataFind
import HandS.Lambda
import HandS.EndTab
import HandS.Style
import HandS.EndBits
import KE.KNestM
import PySem.Challenge.RW_twoalone_k16_what_is_not_known
set_option Elab.async false
set_option maxRecDepth 100000
set_option maxHeartbeats 4000000
namespace TA
open PySem L2 PyProof.Rows
set_option linter.unusedVariables false
def top (i : Nat) : Stmt := PySem.Challenge.pw_twoalone_k16_what_is_not_known.main.body.getD i (.Pass ⟨0, 0, 0, 0⟩)
abbrev sWhole : Stmt := top 2
abbrev sWithin : Stmt := top 3
abbrev sHand : Stmt := top 4
abbrev s_AloneError : Stmt := top 6
abbrev s_NoHand : Stmt := top 7
abbrev s_NoRounds : Stmt := top 8
abbrev s_NoInputs : Stmt := top 9
abbrev s_NoWeaving : Stmt := top 10
abbrev s_NoKnown : Stmt := top 11
abbrev sInputs : Stmt := top 16
abbrev sWeaving : Stmt := top 17
abbrev sPut : Stmt := top 18
abbrev sKnown : Stmt := top 19
abbrev sWeav : Stmt := top 20
abbrev s_rounds_behind : Stmt := top 22
abbrev s_agrees : Stmt := top 23
abbrev s_met : Stmt := top 24
abbrev s_standing : Stmt := top 25
abbrev sPlace : Stmt := top 26
abbrev sCell : Stmt := top 28
abbrev sWell : Stmt := top 29
abbrev sDraw : Stmt := top 30
abbrev sOne : Stmt := top 31
abbrev sLawWeav : Stmt := top 32
abbrev s__law_numbers : Stmt := top 33
abbrev s__law_plain_things : Stmt := top 34
abbrev s__law_depth : Stmt := top 35
abbrev s__law_comes : Stmt := top 36
abbrev sSpoilt : Stmt := top 37
abbrev sSaid : Stmt := top 38
abbrev s__law_spot : Stmt := top 39
abbrev sRight : Stmt := top 40
abbrev sLaw : Stmt := top 41

structure Txt (K : PySem.W.Frag) (mg : Str → Option Value) : Prop where
  isi : mg "isinstance" = none
  int : mg "int" = none
  bool : mg "bool" = none
  len : mg "len" = none
  range : mg "range" = none
  list : mg "list" = none
  tuple : mg "tuple" = none
  all : mg "all" = none
  sum : mg "sum" = none
  min : mg "min" = none
theorem same_new {H : Hp} {p : Addr} (h : H p = none) (o : HO) : Same H (upd H p o) := fun b u q => by rw [upd_ne (ne_of_none q h)]; exact q

/-! the small promises -/
def spWhole : Sp := fun vs H Q _ => ∃ n : Int, vs = [.int n] ∧ Q (.bl true) H
def spWithin : Sp := fun vs H Q _ => ∃ a b c : Int, vs = [.int a, .int b, .int c] ∧ Q (.bl (decide (b ≤ a ∧ a ≤ c))) H
def spCell (K : PySem.W.Frag) : Sp := fun vs H Q _ => ∃ (a : Addr) (ns : List Int) (k : Int), vs = [.ref a, .int k] ∧ SqL K H a (ns.map V.int) ∧ ns.length ≤ 1000 ∧ 0 ≤ k ∧ ∀ c : Int, Q (.int c) H
def spWell : Sp := fun vs H Q _ => ∃ c : Int, vs = [.int c] ∧ ∀ (p : Addr) (x y : Int), H p = none → 0 ≤ x → 0 ≤ y → y < 2147483629 → Q (.ref p) (upd H p (.lst [.int x, .int y, .int 0]))
def spDraw : Sp := fun vs H Q _ => ∃ (a : Addr) (x y z m : Int), vs = [.ref a, .int m] ∧ H a = some (.lst [.int x, .int y, .int z]) ∧ 0 ≤ x ∧ 0 ≤ y ∧ y < 2147483629 ∧ 0 ≤ z ∧ z < 1000000 ∧ 0 < m ∧ m < 2 ^ 100 ∧
  ∀ (r x' z' : Int), 0 ≤ r → r < m → 0 ≤ x' → z ≤ z' → z' ≤ z + 1 → Q (.int r) (upd H a (.lst [.int x', .int y, .int z']))
section
variable {P : Program} {w : World} {K : PySem.W.Frag} {mg : Str → Option Value} {base : Heap}

theorem scWhole : FnScope ["thing"] ["thing"] (defScope sWhole) := ⟨rfl, rfl, rfl, by decide +kernel, rfl, by decide +kernel, by decide +kernel⟩
theorem ok_whole {f : Addr} {fd : FuncData} (F : Fun K "is_whole" "is_whole" sWhole f fd) (T : Txt K mg) : FnOk P w K mg base CX0 1 f fd ["thing"] spWhole := by
  refine F.ok scWhole (fun vs H Q E h => ?_) (fun cdv A outer s H vs Q E hr h => ?_)
  · obtain ⟨n, rfl, _⟩ := h
    rfl
  obtain ⟨n, rfl, q⟩ := h
  refine ⟨_, pss_one (ps_ret (pe_and (pe_callB call_isi (by rfl) T.isi boot_isinstance (pa_cons (pv 0) (pa_cons (pe_bltn (v := .ty "int") (by rfl) T.int boot_int rfl) pa_nil)))
    (pe_one (pe_not (pe_callB call_isi (by rfl) T.isi boot_isinstance (pa_cons (pv 0) (pa_cons (pe_bltn (v := .ty "bool") (by rfl) T.bool boot_bool rfl) pa_nil))))))), ?_⟩
  refine ⟨_, rfl, V.int n, V.ty "int", _, _, true, rfl, .ty "int", .base (.int n), kit_ty (by decide +kernel), true, rfl, iteT ?_⟩
  exact ⟨_, rfl, V.int n, V.ty "bool", _, _, false, rfl, .ty "bool", .base (.int n), kit_ty (by decide +kernel), false, rfl, q⟩

theorem scWithin : FnScope ["thing", "least", "most"] ["thing", "least", "most"] (defScope sWithin) := ⟨rfl, rfl, rfl, by decide +kernel, rfl, by decide +kernel, by decide +kernel⟩
theorem ok_within {f g : Addr} {fd gd : FuncData} (F : Fun K "is_whole_within" "is_whole_within" sWithin f fd) (G : FnOk P w K mg base CX0 1 g gd ["thing"] spWhole) (bG : Binds K gd ["thing"] []) (kG : PySem.W.keepIn K (.ref g) = true) (mG : mg "is_whole" = some (.ref g)) :
    FnOk P w K mg base CX0 2 f fd ["thing", "least", "most"] spWithin := by
  refine F.ok scWithin (fun vs H Q E h => ?_) (fun cdv A outer s H vs Q E hr h => ?_)
  · obtain ⟨a, b, c, rfl, _⟩ := h
    rfl
  obtain ⟨a, b, c, rfl, q⟩ := h
  refine ⟨_, pss_one (ps_ret (pe_and (pe_call G hr rfl mG kG bG .nil pass0 (pa_cons (pv 0) pa_nil)) (pe_one (pe_chain op_le op_le (pv 1) (pv 0) (pv 2))))), ?_⟩
  refine ⟨_, rfl, a, rfl, true, rfl, iteT ?_⟩
  refine ⟨_, rfl, _, rfl, _, _, rfl, rfl, _, rfl, ?_⟩
  by_cases h1 : b ≤ a
  · rw [decide_eq_true h1]
    refine iteT ?_
    refine ⟨_, rfl, _, _, rfl, rfl, ?_⟩
    have e : decide (b ≤ a ∧ a ≤ c) = decide (a ≤ c) := by simp [h1]
    rw [e] at q
    exact q
  · rw [decide_eq_false h1]
    refine iteF ?_
    have e : decide (b ≤ a ∧ a ≤ c) = false := by simp [h1]
    rw [e] at q
    exact q

theorem scCell : FnScope ["_law_script", "_law_k"] ["_law_script", "_law_k"] (defScope sCell) := ⟨rfl, rfl, rfl, by decide +kernel, rfl, by decide +kernel, by decide +kernel⟩
theorem ok_cell {f : Addr} {fd : FuncData} (F : Fun K "_law_cell_at" "_law_cell_at" sCell f fd) (T : Txt K mg) : FnOk P w K mg base CX0 1 f fd ["_law_script", "_law_k"] (spCell K) := by
  refine F.ok scCell (fun vs H Q E h => ?_) (fun cdv A outer s H vs Q E hr h => ?_)
  · obtain ⟨a, ns, k, rfl, _⟩ := h
    rfl
  obtain ⟨a, ns, k, rfl, hS, hn, hk, q⟩ := h
  refine ⟨_, pss_cons (ps_if (pt_cmpR op_lt (pv 1) (pe_callB call_len_seq (by rfl) T.len PySem.boot_len (pa_cons (pv 0) pa_nil)) (nomark _)) (pss_one (ps_ret (pe_ix ix_list (pv 0) (pv 1) (fun _ _ => rfl)))) pss_nil)
    (pss_one (ps_ret pe_int)), ?_⟩
  refine ⟨_, rfl, _, rfl, a, _, rfl, .inl hS, _, _, rfl, rfl, _, rfl, ?_⟩
  refine ite2 (fun c => ?_) (fun c => ?_)
  · have c' : k < (((ns.map V.int).length : Nat) : Int) := of_decide_eq_true c
    rw [List.length_map] at c'
    have hk' : k.toNat < ns.length := by omega
    have ek : k = ((k.toNat : Nat) : Int) := by omega
    have g : atI (ns.map V.int) ((k.toNat : Nat) : Int) = some (.int ns[k.toNat]) := atI_nat (by rw [List.getElem?_map, List.getElem?_eq_getElem hk'] <;> rfl)
    rw [← ek] at g
    exact ⟨_, rfl, _, rfl, a, _, _, _, rfl, rfl, hS, g, q _⟩
  · exact q 0

theorem scWell : FnScope ["_law_cell"] ["_law_cell"] (defScope sWell) := ⟨rfl, rfl, rfl, by decide +kernel, rfl, by decide +kernel, by decide +kernel⟩
theorem ok_well {f : Addr} {fd : FuncData} (F : Fun K "_law_well" "_law_well" sWell f fd) (T : Txt K mg) : FnOk P w K mg base CX0 1 f fd ["_law_cell"] spWell := by
  refine F.ok scWell (fun vs H Q E h => ?_) (fun cdv A outer s H vs Q E hr h => ?_)
  · obtain ⟨c, rfl, _⟩ := h
    rfl
  obtain ⟨c, rfl, q⟩ := h
  refine ⟨_, pss_one (ps_ret (pe_lst (pa_cons (pe_op op_mul (pv 0) (pe_callTy call_int1 (by rfl) T.int boot_int (pa_cons (pe_cmpR op_ge (pv 0) (pe_op op_pow pe_int pe_int) (nomark _)) pa_nil)))
    (pa_cons (pe_op op_mod (pv 0) pe_int) (pa_cons pe_int pa_nil))))), ?_⟩
  refine ⟨_, rfl, _, rfl, _, _, rfl, rfl, ⟨by decide, by decide, by decide⟩, _, _, rfl, rfl, .inr ⟨_, rfl, ?_⟩⟩
  have b : ∀ k : Bool, CMul c (if k = true then 1 else 0) := fun k => .inr (by cases k <;> decide)
  refine ⟨_, _, rfl, rfl, b _, _, rfl, _, _, rfl, rfl, (by show (0 : Int) < 2147483629; decide), (by show 3 ≤ sizeLine; decide), fun p hp => ?_⟩
  have m0 : 0 ≤ c % 2147483629 := Int.emod_nonneg _ (by decide)
  have m1 : c % 2147483629 < 2147483629 := Int.emod_lt_of_pos _ (by decide)
  refine q p _ _ hp ?_ m0 m1
  by_cases hc : c ≥ 10 ^ (18 : Int).toNat
  · rw [decide_eq_true hc]
    have : (0 : Int) ≤ 10 ^ (18 : Int).toNat := by decide
    show 0 ≤ c * 1
    omega
  · rw [decide_eq_false hc]
    show 0 ≤ c * 0
    omega

theorem scDraw : FnScope ["_law_well_here", "_law_many", "_law_found", "_law_number"] ["_law_well_here", "_law_many"] (defScope sDraw) := ⟨rfl, rfl, rfl, by decide +kernel, rfl, by decide +kernel, by decide +kernel⟩
theorem ok_draw {f : Addr} {fd : FuncData} (F : Fun K "_law_draw" "_law_draw" sDraw f fd) : FnOk P w K mg base CX0 1 f fd ["_law_well_here", "_law_many"] spDraw := by
  refine F.ok scDraw (fun vs H Q E h => ?_) (fun cdv A outer s H vs Q E hr h => ?_)
  · obtain ⟨a, x, y, z, m, rfl, _⟩ := h
    rfl
  obtain ⟨a, x, y, z, m, rfl, hL, hx, hy, hy2, hz, hz2, hm, hm2, q⟩ := h
  have nd := scDraw.nd
  refine ⟨_, pss_cons (ps_if (pt_cmpR op_gt (pe_ix ix_list (pv 0) pe_int (fun _ _ => rfl)) pe_int (nomark _))
      (pss_cons (ps_set (i := 2) nd rfl (Or.inl rfl) (pe_op op_mod (pe_ix ix_list (pv 0) pe_int (fun _ _ => rfl)) (pv 1)))
        (pss_cons (ps_asg (pe_op op_fdivW (pe_ix ix_list (pv 0) pe_int (fun _ _ => rfl)) (pv 1)) (pg_sub (pv 0) pe_int set_list))
          (pss_one (ps_ret (pv 2))))) pss_nil)
    (pss_cons (ps_asg (pe_op op_add (pe_ix ix_list (pv 0) pe_int (fun _ _ => rfl)) pe_int) (pg_sub (pv 0) pe_int set_list))
    (pss_cons (ps_set (i := 3) nd rfl (Or.inl rfl) (pe_op op_mod (pe_op op_mul (pe_op op_add (pe_op op_add (pe_ix ix_list (pv 0) pe_int (fun _ _ => rfl)) (pe_op op_mul pe_int (pe_ix ix_list (pv 0) pe_int (fun _ _ => rfl)))) pe_int) pe_int) pe_int))
    (pss_cons (ps_set (i := 3) nd rfl (Or.inl rfl) (pe_op op_mod (pe_op op_mul (pv 3) (pe_op op_add (pe_op op_add (pe_op op_fdiv (pv 3) pe_int) pe_int) (pe_ix ix_list (pv 0) pe_int (fun _ _ => rfl)))) pe_int))
    (pss_one (ps_ret (pe_op op_mod (pe_op op_fdiv (pe_op op_mod (pe_op op_mul (pv 3) (pe_op op_add (pe_op op_fdiv (pv 3) pe_int) pe_int)) pe_int) pe_int) (pv 1))))))), ?_⟩
  refine ⟨_, rfl, a, _, _, _, rfl, rfl, SqL.of hL, rfl, _, _, rfl, rfl, _, rfl, ?_⟩
  refine ite2 (fun c => ?_) (fun c => ?_)
  · have c' : x > 0 := of_decide_eq_true c
    refine ⟨_, rfl, a, _, _, _, rfl, rfl, SqL.of hL, rfl, _, rfl, _, _, rfl, rfl, hm, ?_⟩
    refine ⟨_, rfl, a, _, _, _, rfl, rfl, SqL.of hL, rfl, _, rfl, _, _, rfl, rfl, wide_div (b := 100) hm (by omega) (by decide) (by decide), ?_⟩
    refine ⟨_, rfl, a, _, _, 0, rfl, rfl, hL, rfl, _, rfl, ?_⟩
    exact q _ _ _ (Int.emod_nonneg _ (by omega)) (Int.emod_lt_of_pos _ hm) (Int.ediv_nonneg hx (by omega)) (Int.le_refl _) (by omega)
  · have hL2 : (upd H a (.lst [.int x, .int y, .int (z + 1)])) a = some (.lst [.int x, .int y, .int (z + 1)]) := upd_same
    refine ⟨_, rfl, a, _, _, _, rfl, rfl, SqL.of hL, rfl, _, _, rfl, rfl, ?_⟩
    refine ⟨_, rfl, a, _, _, 2, rfl, rfl, hL, rfl, ?_⟩
    refine ⟨_, rfl, a, _, _, _, rfl, rfl, SqL.of hL2, rfl, _, rfl, a, _, _, _, rfl, rfl, SqL.of hL2, rfl, _, _, rfl, rfl, .inl ⟨by decide, by decide⟩, _, _, rfl, rfl, _, _, rfl, rfl, _, _, rfl, rfl, .inr ⟨by decide, by decide⟩, _, _, rfl, rfl, (by show (0 : Int) < 2147483629; decide), ?_⟩
    have n0 := Int.emod_nonneg ((y + 86969 * (z + 1) + 1) * 48271) (show (2147483629 : Int) ≠ 0 by decide)
    have n1 := Int.emod_lt_of_pos ((y + 86969 * (z + 1) + 1) * 48271) (show (0 : Int) < 2147483629 by decide)
    generalize ((y + 86969 * (z + 1) + 1) * 48271) % 2147483629 = n at n0 n1 ⊢
    refine ⟨_, rfl, _, rfl, _, _, rfl, rfl, ⟨by decide, by decide⟩, _, _, rfl, rfl, _, rfl, a, _, _, _, rfl, rfl, SqL.of hL2, rfl, _, _, rfl, rfl, _, _, rfl, rfl, .inl ⟨by omega, by omega⟩, _, _, rfl, rfl, (by show (0 : Int) < 2147483587; decide), ?_⟩
    have k0 := Int.emod_nonneg (n * (n / 1013 + 69623 + (z + 1))) (show (2147483587 : Int) ≠ 0 by decide)
    have k1 := Int.emod_lt_of_pos (n * (n / 1013 + 69623 + (z + 1))) (show (0 : Int) < 2147483587 by decide)
    generalize (n * (n / 1013 + 69623 + (z + 1))) % 2147483587 = k at k0 k1 ⊢
    refine ⟨_, rfl, _, rfl, _, _, rfl, rfl, ⟨by decide, by decide⟩, _, _, rfl, rfl, _, _, rfl, rfl, .inl ⟨by omega, by omega⟩, _, _, rfl, rfl, (by show (0 : Int) < 2147483563; decide), _, _, rfl, rfl, ⟨by decide, by decide⟩, _, rfl, _, _, rfl, rfl, hm, ?_⟩
    exact q _ _ _ (Int.emod_nonneg _ (by omega)) (Int.emod_lt_of_pos _ hm) hx (by omega) (by omega)

/-- _law_one: SOME item of the list -/
def spOne (K : PySem.W.Frag) : Sp := fun vs H Q _ => ∃ (a l : Addr) (x y z : Int) (xs : List V), vs = [.ref a, .ref l] ∧ H a = some (.lst [.int x, .int y, .int z]) ∧ 0 ≤ x ∧ 0 ≤ y ∧ y < 2147483629 ∧ 0 ≤ z ∧ z < 1000000 ∧ H l = some (.lst xs) ∧ a ≠ l ∧ 0 < xs.length ∧ xs.length < 1000 ∧
  ∀ (i : Nat) (v : V) (x' z' : Int), xs[i]? = some v → 0 ≤ x' → z ≤ z' → z' ≤ z + 1 → Q v (upd H a (.lst [.int x', .int y, .int z']))
theorem scOne : FnScope ["_law_well_here", "_law_some"] ["_law_well_here", "_law_some"] (defScope sOne) := ⟨rfl, rfl, rfl, by decide +kernel, rfl, by decide +kernel, by decide +kernel⟩
theorem ok_one {f g : Addr} {fd gd : FuncData} (F : Fun K "_law_one" "_law_one" sOne f fd) (T : Txt K mg) (G : FnOk P w K mg base CX0 1 g gd ["_law_well_here", "_law_many"] spDraw) (bG : Binds K gd ["_law_well_here", "_law_many"] []) (kG : PySem.W.keepIn K (.ref g) = true) (mG : mg "_law_draw" = some (.ref g)) :
    FnOk P w K mg base CX0 2 f fd ["_law_well_here", "_law_some"] (spOne K) := by
  refine F.ok scOne (fun vs H Q E h => ?_) (fun cdv A outer s H vs Q E hr h => ?_)
  · obtain ⟨a, l, x, y, z, xs, rfl, _⟩ := h
    rfl
  obtain ⟨a, l, x, y, z, xs, rfl, hL, hx, hy, hy2, hz, hz2, hl, hal, hn0, hn1, q⟩ := h
  refine ⟨_, pss_one (ps_ret (pe_ix ix_list (pv 1) (pe_call G hr rfl mG kG bG .nil pass0 (pa_cons (pv 0) (pa_cons (pe_callB call_len_seq (by rfl) T.len PySem.boot_len (pa_cons (pv 1) pa_nil)) pa_nil))) (fun _ _ => rfl))), ?_⟩
  refine ⟨_, rfl, _, rfl, _, rfl, l, _, rfl, .inl (SqL.of hl), a, x, y, z, _, rfl, hL, hx, hy, hy2, hz, hz2, by omega, by omega, fun r x' z' r0 r1 x0 z0 z1 => ?_⟩
  have hr' : r.toNat < xs.length := by omega
  have er : r = ((r.toNat : Nat) : Int) := by omega
  have g : atI xs ((r.toNat : Nat) : Int) = some xs[r.toNat] := atI_nat (List.getElem?_eq_getElem hr')
  rw [← er] at g
  exact ⟨l, _, _, _, rfl, rfl, SqL.of (by rw [upd_ne hal.symm]; exact hl), g, q r.toNat _ _ _ (List.getElem?_eq_getElem hr') x0 z0 z1⟩
end
end TA

set_option Elab.async false
set_option maxRecDepth 100000
set_option maxHeartbeats 4000000
namespace TA
open PySem L2 PyProof.Rows
set_option linter.unusedVariables false
/-! what a hand knows, on the heap: ints, None, tuples of two -/
inductive Kn (H : Hp) : V → PyData → Prop
  | int (i : Int) : Kn H (.int i) (.int i)
  | non : Kn H .non .none
  | tup {a : Addr} {x y : V} {d e : PyData} : H a = some (.tup [x, y]) → Kn H x d → Kn H y e → Kn H (.ref a) (.tuple [d, e])
/-- all tuples stand as they stood -/
def Tups (H H' : Hp) : Prop := ∀ a xs, H a = some (.tup xs) → H' a = some (.tup xs)
theorem Kn.mono {H H' : Hp} (s : Tups H H') : ∀ {v d}, Kn H v d → Kn H' v d
  | _, _, .int i => .int i
  | _, _, .non => .non
  | _, _, .tup h a b => .tup (s _ _ h) (a.mono s) (b.mono s)
theorem Kn.dp {K : PySem.W.Frag} {H : Hp} : ∀ {v d}, Kn H v d → Dp K H v d
  | _, _, .int i => .int i
  | _, _, .non => .non
  | _, _, .tup h a b => .tup (SqT.of h) (.cons a.dp (.cons b.dp .nil))
theorem Tups.same {H H' : Hp} (s : Same H H') : Tups H H' := fun a xs h => s _ _ h
theorem Tups.updL {H : Hp} {p : Addr} {xs : List V} {o : HO} (h : H p = some (.lst xs)) : Tups H (upd H p o) := fun a ys e => by
  rw [upd_ne (ne_of e h (fun q => by cases q))]
  exact e
theorem Tups.updD {H : Hp} {p : Addr} {kvs : List (List Key × V)} {o : HO} (h : H p = some (.dT kvs)) : Tups H (upd H p o) := fun a ys e => by
  rw [upd_ne (ne_of e h (fun q => by cases q))]
  exact e
theorem Tups.trans {H H1 H2 : Hp} (a : Tups H H1) (b : Tups H1 H2) : Tups H H2 := fun x xs h => b _ _ (a _ _ h)
inductive KnAll (H : Hp) : List V → List PyData → Prop
  | nil : KnAll H [] []
  | cons {v vs d ds} : Kn H v d → KnAll H vs ds → KnAll H (v :: vs) (d :: ds)
theorem KnAll.mono {H H' : Hp} (s : Tups H H') : ∀ {vs ds}, KnAll H vs ds → KnAll H' vs ds
  | _, _, .nil => .nil
  | _, _, .cons a b => .cons (a.mono s) (b.mono s)
theorem KnAll.len {H : Hp} : ∀ {vs ds}, KnAll H vs ds → vs.length = ds.length
  | _, _, .nil => rfl
  | _, _, .cons _ b => congrArg (· + 1) b.len
theorem KnAll.snoc {H : Hp} {v d} (k : Kn H v d) : ∀ {vs ds}, KnAll H vs ds → KnAll H (vs ++ [v]) (ds ++ [d])
  | _, _, .nil => .cons k .nil
  | _, _, .cons a b => .cons a (b.snoc k)
theorem KnAll.getD {H : Hp} : ∀ {vs ds} (t : Nat), KnAll H vs ds → Kn H (vs.getD t .non) (ds.getD t .none)
  | _, _, _, .nil => by simp; exact .non
  | _, _, 0, .cons a b => by simpa using a
  | _, _, t + 1, .cons a b => by simpa using b.getD t

/-! the mirror -/
def upf {α : Type} (f : Nat → α) (h : Nat) (x : α) : Nat → α := fun i => if i = h then x else f i
theorem upf_same {α : Type} {f : Nat → α} {h : Nat} {x : α} : upf f h x h = x := by unfold upf; rw [if_pos rfl]
theorem upf_ne {α : Type} {f : Nat → α} {h i : Nat} {x : α} (e : i ≠ h) : upf f h x i = f i := by unfold upf; rw [if_neg e]
theorem two_get {α : Type} (f : Nat → α) {h : Nat} (hh : h < 2) : [f 0, f 1][h]? = some (f h) := by
  rcases h with _ | _ | h
  · rfl
  · rfl
  · omega
theorem two_set {α : Type} (f : Nat → α) {h : Nat} (hh : h < 2) (x : α) : [f 0, f 1].set h x = [upf f h x 0, upf f h x 1] := by
  rcases h with _ | _ | h
  · rfl
  · rfl
  · omega
structure M where
  k : Nat → PyData
  c : Nat → List PyData
  l : Nat → Nat
def M.step (m : M) (h : Nat) : M :=
  if m.l h < (m.c h).length then { k := upf m.k h (.tuple [m.k h, (m.c (1 - h)).getD (m.l h) .none]), c := m.c, l := upf m.l h (m.l h + 1) }
  else { k := m.k, c := upf m.c h (m.c h ++ [m.k h]), l := m.l }
def M.run (m : M) (hs : List Nat) : M := hs.foldl M.step m
def M.done (m : M) (h : Nat) : Nat := m.l h + (m.c h).length
def M0 (a b : Int) : M := { k := fun h => if h = 0 then .int a else .int b, c := fun _ => [], l := fun _ => 0 }
def M.wf (m : M) : Prop := ∀ h < 2, (m.c h).length = m.l h ∨ (m.c h).length = m.l h + 1
theorem M.wf0 (a b : Int) : (M0 a b).wf := fun h _ => .inl rfl
theorem M.wf_step {m : M} (w : m.wf) {h : Nat} (hh : h < 2) : (m.step h).wf := fun i hi => by
  unfold M.step
  have wi := w i hi
  have wh := w h hh
  by_cases c : m.l h < (m.c h).length
  · rw [if_pos c]
    show (m.c i).length = upf m.l h (m.l h + 1) i ∨ (m.c i).length = upf m.l h (m.l h + 1) i + 1
    by_cases e : i = h
    · subst e; rw [upf_same]; omega
    · rw [upf_ne e]; exact wi
  · rw [if_neg c]
    show (upf m.c h (m.c h ++ [m.k h]) i).length = m.l i ∨ (upf m.c h (m.c h ++ [m.k h]) i).length = m.l i + 1
    by_cases e : i = h
    · subst e; rw [upf_same, List.length_append]; show _ + 1 = _ ∨ _ + 1 = _; omega
    · rw [upf_ne e]; exact wi
theorem M.done_step (m : M) (h i : Nat) : (m.step h).done i = m.done i + (if i = h then 1 else 0) := by
  unfold M.step M.done
  by_cases c : m.l h < (m.c h).length
  · rw [if_pos c]
    show upf m.l h (m.l h + 1) i + (m.c i).length = _
    by_cases e : i = h
    · subst e; rw [upf_same, if_pos rfl]; omega
    · rw [upf_ne e, if_neg e]; rfl
  · rw [if_neg c]
    show m.l i + (upf m.c h (m.c h ++ [m.k h]) i).length = _
    by_cases e : i = h
    · subst e; rw [upf_same, if_pos rfl, List.length_append]; show _ + (_ + 1) = _; omega
    · rw [upf_ne e, if_neg e]; rfl
theorem M.run_snoc (m : M) (hs : List Nat) (h : Nat) : m.run (hs ++ [h]) = (m.run hs).step h := by
  unfold M.run
  rw [List.foldl_append]
  rfl
theorem M.done_run (m : M) (i : Nat) : ∀ hs : List Nat, (m.run hs).done i = m.done i + hs.count i := by
  intro hs
  induction hs generalizing m with
  | nil => rfl
  | cons h r ih =>
    show ((m.step h).run r).done i = _
    rw [ih, M.done_step, List.count_cons]
    by_cases e : i = h
    · subst e; simp; omega
    · have e2 : ¬ h = i := fun q => e q.symm
      simp [e, e2]
theorem M.wf_run {m : M} (w : m.wf) : ∀ {hs : List Nat}, (∀ h ∈ hs, h < 2) → (m.run hs).wf := by
  intro hs
  induction hs generalizing m with
  | nil => intro _; exact w
  | cons h r ih => intro q; exact ih (M.wf_step w (q h List.mem_cons_self)) (fun x hx => q x (List.mem_cons_of_mem _ hx))
/-- data as they may be compared -/
def Ok (n : Nat) (d : PyData) : Prop := d.canLay0 = true ∧ d.depth ≤ n
theorem Ok.up {n m : Nat} {d : PyData} (h : Ok n d) (e : n ≤ m) : Ok m d := ⟨h.1, Nat.le_trans h.2 e⟩
theorem Ok.pair {n : Nat} {d e : PyData} (h : Ok n d) (g : Ok n e) : Ok (n + 1) (.tuple [d, e]) := by
  refine ⟨?_, ?_⟩
  · simp [PyData.canLay0, PyData.canLayAll0, h.1, g.1]
  · have h2 := h.2
    have g2 := g.2
    simp only [PyData.depth, PyData.depthAll]
    omega
theorem Ok.lst {n : Nat} {d e : PyData} (h : Ok n d) (g : Ok n e) : Ok (n + 1) (.list [d, e]) := by
  refine ⟨?_, ?_⟩
  · simp [PyData.canLay0, PyData.canLayAll0, h.1, g.1]
  · have h2 := h.2
    have g2 := g.2
    simp only [PyData.depth, PyData.depthAll]
    omega
theorem Ok.shaped {d : PyData} (h : Ok 64 d) : SeqAt.shaped d = true := by
  unfold SeqAt.shaped
  rw [h.1, decide_eq_true h.2]
  rfl
end TA

set_option Elab.async false
set_option maxRecDepth 100000
set_option maxHeartbeats 4000000
namespace TA
open PySem L2 PyProof.Rows
set_option linter.unusedVariables false
def M.ok (n : Nat) (m : M) : Prop := ∀ h < 2, Ok n (m.k h) ∧ ∀ d ∈ m.c h, Ok n d
theorem ok_int {n : Nat} (i : Int) (h : 0 < n) : Ok n (.int i) := ⟨rfl, by show PyData.depth (.int i) ≤ n; simp only [PyData.depth]; omega⟩
theorem ok_none {n : Nat} (h : 0 < n) : Ok n .none := ⟨rfl, by show PyData.depth .none ≤ n; simp only [PyData.depth]; omega⟩
theorem M.ok0 (a b : Int) : (M0 a b).ok 1 := fun h _ => ⟨by
  show Ok 1 (if h = 0 then .int a else .int b)
  split
  · exact ok_int a (by decide)
  · exact ok_int b (by decide), fun d hd => by cases hd⟩
theorem M.ok_step {n : Nat} {m : M} (o : m.ok n) (h0 : 0 < n) {h : Nat} (hh : h < 2) : (m.step h).ok (n + 1) := fun i hi => by
  unfold M.step
  by_cases c : m.l h < (m.c h).length
  · rw [if_pos c]
    refine ⟨?_, fun d hd => ((o i hi).2 d hd).up (by omega)⟩
    show Ok (n + 1) (upf m.k h _ i)
    by_cases e : i = h
    · subst e
      rw [upf_same]
      refine Ok.pair (o i hi).1 ?_
      cases g : (m.c (1 - i))[m.l i]? with
      | none => rw [List.getD_eq_getElem?_getD, g]; exact ok_none h0
      | some d => rw [List.getD_eq_getElem?_getD, g]; exact (o (1 - i) (by omega)).2 d (List.mem_of_getElem? g)
    · rw [upf_ne e]; exact (o i hi).1.up (by omega)
  · rw [if_neg c]
    refine ⟨(o i hi).1.up (by omega), fun d hd => ?_⟩
    have hd' : d ∈ upf m.c h (m.c h ++ [m.k h]) i := hd
    by_cases e : i = h
    · subst e
      rw [upf_same] at hd'
      rcases List.mem_append.mp hd' with q | q
      · exact ((o i hi).2 d q).up (by omega)
      · have : d = m.k i := by simpa using q
        rw [this]
        exact (o i hi).1.up (by omega)
    · rw [upf_ne e] at hd'; exact ((o i hi).2 d hd').up (by omega)
theorem M.ok_run {hs : List Nat} : ∀ {n : Nat} {m : M}, m.ok n → 0 < n → (∀ h ∈ hs, h < 2) → (m.run hs).ok (n + hs.length) := by
  induction hs with
  | nil => intro n m o _ _; exact o
  | cons h r ih =>
    intro n m o h0 q
    have := ih (M.ok_step o h0 (q h List.mem_cons_self)) (by omega) (fun x hx => q x (List.mem_cons_of_mem _ hx))
    rw [show n + 1 + r.length = n + (h :: r).length by rw [List.length_cons]; omega] at this
    exact this
def M.res (m : M) (deep : Nat) (h : Nat) : PyData := if m.done h = 2 * deep then m.k h else .none
theorem M.res_ok {n : Nat} {m : M} (o : m.ok n) (h0 : 0 < n) (deep : Nat) {h : Nat} (hh : h < 2) : Ok n (m.res deep h) := by
  unfold M.res
  split
  · exact (o h hh).1
  · exact ok_none h0
theorem M.stopped {m : M} (w : m.wf) {deep h : Nat} (hh : h < 2) (hd : m.done h ≤ 2 * deep) : m.l h = deep ↔ m.done h = 2 * deep := by
  have wh := w h hh
  unfold M.done at hd ⊢
  omega
/-- what is told: two places -/
def told (a b : Int) (hs : List Nat) (deep : Nat) : PyData := .list [((M0 a b).run hs).res deep 0, ((M0 a b).run hs).res deep 1]
theorem told_shaped (a b : Int) {hs : List Nat} (q : ∀ h ∈ hs, h < 2) (hz : hs.length ≤ 40) (deep : Nat) : SeqAt.shaped (told a b hs deep) = true := by
  have o := M.ok_run (M.ok0 a b) (by decide) q
  exact ((M.res_ok o (by omega) deep (h := 0) (by decide)).lst (M.res_ok o (by omega) deep (h := 1) (by decide))).up (by omega) |>.shaped
theorem eqv_self {d : PyData} (h : SeqAt.shaped d = true) : PyData.eqv d d = true := SeqAt.eqv_refl d (SeqAt.canLay_of_shaped h)

/-! a walk of n turns, whatever is walked: the word Pv is kept from turn to turn -/
theorem turns {J : It} (n : Nat) {H0 : Hp} {Qd : Hp → Prop} {B : (Hp → Prop) → V → Hp → Prop} (Pv : Nat → Hp → Prop) (start : Pv 0 H0) (last : ∀ H, Pv n H → J.stop n H ∧ Qd H)
    (turn : ∀ i H, i < n → Pv i H → J.go i H ∧ ∀ x H', J.yld i H x H' → B (Pv (i + 1)) x H') :
    ∃ W : Nat → Nat → Hp → Prop, (∃ m, W 0 m H0) ∧ ∀ i m H, W i m H →
      (J.stop i H ∧ Qd H) ∨ (J.go i H ∧ ∃ Nx : Hp → Prop, (∀ H', Nx H' → ∃ m', m' < m ∧ W (i + 1) m' H') ∧ ∀ x H', J.yld i H x H' → B Nx x H') := by
  refine ⟨fun i m H => i + m = n ∧ Pv i H, ⟨n, by omega, start⟩, fun i m H h => ?_⟩
  obtain ⟨hm, word⟩ := h
  cases m with
  | zero =>
    have hin : i = n := by omega
    rw [hin] at word ⊢
    exact Or.inl (last H word)
  | succ m =>
    obtain ⟨go, step⟩ := turn i H (by omega) word
    exact Or.inr ⟨go, Pv (i + 1), fun H' w' => ⟨m, by omega, by omega, w'⟩, step⟩
theorem list_turns {K : PySem.W.Frag} {a : Addr} {xs : List V} {H0 : Hp} {Qd : Hp → Prop} {B : (Hp → Prop) → V → Hp → Prop} (Pv : Nat → Hp → Prop) (start : Pv 0 H0) (still : ∀ i H, i ≤ xs.length → Pv i H → SqL K H a xs)
    (turn : ∀ i x H, xs[i]? = some x → Pv i H → B (Pv (i + 1)) x H) (last : ∀ H, Pv xs.length H → Qd H) :
    ∃ W : Nat → Nat → Hp → Prop, (∃ m, W 0 m H0) ∧ ∀ i m H, W i m H →
      ((Itl K a).stop i H ∧ Qd H) ∨ ((Itl K a).go i H ∧ ∃ Nx : Hp → Prop, (∀ H', Nx H' → ∃ m', m' < m ∧ W (i + 1) m' H') ∧ ∀ x H', (Itl K a).yld i H x H' → B Nx x H') :=
  turns xs.length Pv start (fun H w => ⟨⟨xs, still _ H (Nat.le_refl _) w, Nat.le_refl _⟩, last H w⟩) fun i H hi w =>
    have there := still i H (Nat.le_of_lt hi) w
    ⟨⟨xs, xs[i], there, List.getElem?_eq_getElem hi⟩, fun x H' ⟨same, given⟩ => by rw [same]; exact turn i x H (given xs there) w⟩
theorem tup_turns {K : PySem.W.Frag} {a : Addr} {xs : List V} {H0 : Hp} {Qd : Hp → Prop} {B : (Hp → Prop) → V → Hp → Prop} (Pv : Nat → Hp → Prop) (start : Pv 0 H0) (still : ∀ i H, i ≤ xs.length → Pv i H → SqT K H a xs)
    (turn : ∀ i x H, xs[i]? = some x → Pv i H → B (Pv (i + 1)) x H) (last : ∀ H, Pv xs.length H → Qd H) :
    ∃ W : Nat → Nat → Hp → Prop, (∃ m, W 0 m H0) ∧ ∀ i m H, W i m H →
      ((Itt K a).stop i H ∧ Qd H) ∨ ((Itt K a).go i H ∧ ∃ Nx : Hp → Prop, (∀ H', Nx H' → ∃ m', m' < m ∧ W (i + 1) m' H') ∧ ∀ x H', (Itt K a).yld i H x H' → B Nx x H') :=
  turns xs.length Pv start (fun H w => ⟨⟨xs, still _ H (Nat.le_refl _) w, Nat.le_refl _⟩, last H w⟩) fun i H hi w =>
    have there := still i H (Nat.le_of_lt hi) w
    ⟨⟨xs, xs[i], there, List.getElem?_eq_getElem hi⟩, fun x H' ⟨same, given⟩ => by rw [same]; exact turn i x H (given xs there) w⟩
theorem range_turns {lo : Int} {n : Nat} {H0 : Hp} {Qd : Hp → Prop} {B : (Hp → Prop) → V → Hp → Prop} (Pv : Nat → Hp → Prop) (start : Pv 0 H0)
    (turn : ∀ i H, i < n → Pv i H → B (Pv (i + 1)) (.int (lo + i)) H) (last : ∀ H, Pv n H → Qd H) :
    ∃ W : Nat → Nat → Hp → Prop, (∃ m, W 0 m H0) ∧ ∀ i m H, W i m H →
      ((Itr lo n).stop i H ∧ Qd H) ∨ ((Itr lo n).go i H ∧ ∃ Nx : Hp → Prop, (∀ H', Nx H' → ∃ m', m' < m ∧ W (i + 1) m' H') ∧ ∀ x H', (Itr lo n).yld i H x H' → B Nx x H') :=
  turns n Pv start (fun H w => ⟨Nat.le_refl _, last H w⟩) fun i H hi w => ⟨hi, fun x H' ⟨same, given⟩ => by rw [same, given]; exact turn i H hi w⟩
theorem small13 {n : Nat} (h : n ≤ 100000) : n ≤ sizeLine := Nat.le_trans h (by decide)

/-- xs[i] as an augmented assignment reads it, 0 ≤ i -/
theorem get_list {X : Cx} : PGet X (fun o i H Q => ∃ (p : Addr) (xs : List V) (k : Nat) (v : V), o = .ref p ∧ i = .int (k : Int) ∧ SqL X.K H p xs ∧ xs[k]? = some v ∧ Q v H) := by
  intro pins s σ H o i ov iv Q I ro ri h
  obtain ⟨p, xs, k, v, rfl, rfl, hq, he, q⟩ := h
  cases ro
  obtain ⟨t, rfl⟩ := ri
  obtain ⟨its, r, pl, hz⟩ := I.list hq
  obtain ⟨w, ew, rw'⟩ := r.get he
  have hl := r.length
  have hn := line63
  have hk : k < xs.length := (List.getElem?_eq_some_iff.mp he).1
  refine getItem_listL (l := its) pl.isList (by omega) ?_ (by simpa using ew) ⟨v, H, I, rw', q⟩
  omega
end TA

set_option Elab.async false
set_option maxRecDepth 100000
set_option maxHeartbeats 4000000
namespace TA
open PySem L2 PyProof.Rows
set_option linter.unusedVariables false
structure Txt2 (K : PySem.W.Frag) (mg : Str → Option Value) : Prop where
  two : ∃ t, mg "STEPS" = some (.int 2 t)
  five : ∃ t, mg "MOST_ROUNDS" = some (.int 5 t)
  hands : ∃ hA, mg "HANDS" = some (.ref hA) ∧ ∀ H, SqT K H hA [.int 0, .int 1]
structure Def (P : Program) (w : World) (K : PySem.W.Frag) (mg : Str → Option Value) (base : Heap) (x : Str) (ps : List Str) (k : Nat) (sp : Sp) (f : Addr) (fd : FuncData) : Prop where
  G : FnOk P w K mg base CX0 k f fd ps sp
  b : Binds K fd ps []
  k : PySem.W.keepIn K (.ref f) = true
  m : mg x = some (.ref f)
def spHand : Sp := fun vs H Q _ => ∃ a : Int, vs = [.int a] ∧ Q (.bl (decide (0 ≤ a ∧ a ≤ 1))) H
def spInputs : Sp := fun vs H Q _ => ∃ (t : Addr) (a b : Int), vs = [.ref t] ∧ H t = some (.tup [.int a, .int b]) ∧ 0 ≤ a ∧ 0 ≤ b ∧ ∀ H', Same H H' → Q (.bl true) H'
/-- the list of hands at p -/
def hl (hs : List Nat) : List V := hs.map fun h : Nat => V.int (h : Int)
def spWeaving (K : PySem.W.Frag) : Sp := fun vs H Q _ => ∃ (p : Addr) (hs : List Nat) (d : Nat), vs = [.ref p, .int (d : Int)] ∧ SqL K H p (hl hs) ∧ (∀ h ∈ hs, h < 2) ∧ (∀ h < 2, hs.count h ≤ 2 * d) ∧ hs.length ≤ 1000 ∧ ∀ H', Same H H' → Q (.bl true) H'
def spPut (K : PySem.W.Frag) : Sp := fun vs H Q _ => ∃ (c : Addr) (ws : List V) (t : Nat), vs = [.ref c, .int (t : Int)] ∧ SqL K H c ws ∧ Q (ws.getD t .non) H
theorem hl_ints (hs : List Nat) : hl hs = (hs.map fun h : Nat => (h : Int)).map V.int := by
  unfold hl
  rw [List.map_map]
  rfl
theorem hl_count (hs : List Nat) (h : Nat) : (hs.map fun h : Nat => (h : Int)).count (h : Int) = hs.count h := by
  induction hs with
  | nil => rfl
  | cons x r ih =>
    rw [List.map_cons, List.count_cons, List.count_cons, ih]
    by_cases e : x = h
    · subst e; simp
    · have : ¬ ((x : Int) = (h : Int)) := by omega
      simp [e, this]
theorem all_rep (n : Nat) : (List.replicate n true).all id = true := by
  induction n with
  | zero => rfl
  | succ n ih => rw [List.replicate_succ, List.all_cons, ih]; rfl
theorem rep_snoc (n : Nat) : ((List.replicate n true).map V.bl) ++ [V.bl true] = (List.replicate (n + 1) true).map V.bl := by
  rw [List.replicate_succ', List.map_append]
  rfl
section
variable {P : Program} {w : World} {K : PySem.W.Frag} {mg : Str → Option Value} {base : Heap}
theorem scHand : FnScope ["thing"] ["thing"] (defScope sHand) := ⟨rfl, rfl, rfl, by decide +kernel, rfl, by decide +kernel, by decide +kernel⟩
theorem ok_hand {f g : Addr} {fd gd : FuncData} (F : Fun K "is_hand" "is_hand" sHand f fd) (W : Def P w K mg base "is_whole_within" ["thing", "least", "most"] 2 spWithin g gd) : FnOk P w K mg base CX0 3 f fd ["thing"] spHand := by
  refine F.ok scHand (fun vs H Q E h => ?_) (fun cdv A outer s H vs Q E hr h => ?_)
  · obtain ⟨a, rfl, _⟩ := h
    rfl
  obtain ⟨a, rfl, q⟩ := h
  refine ⟨_, pss_one (ps_ret (pe_call W.G hr rfl W.m W.k W.b .nil pass0 (pa_cons (pv 0) (pa_cons pe_int (pa_cons pe_int pa_nil))))), ?_⟩
  exact ⟨_, rfl, a, 0, 1, rfl, q⟩
theorem scPut : FnScope ["cells", "at"] ["cells", "at"] (defScope sPut) := ⟨rfl, rfl, rfl, by decide +kernel, rfl, by decide +kernel, by decide +kernel⟩
theorem ok_put {f : Addr} {fd : FuncData} (F : Fun K "put_in" "put_in" sPut f fd) (T : Txt K mg) : FnOk P w K mg base CX0 1 f fd ["cells", "at"] (spPut K) := by
  refine F.ok scPut (fun vs H Q E h => ?_) (fun cdv A outer s H vs Q E hr h => ?_)
  · obtain ⟨c, ws, t, rfl, _⟩ := h
    rfl
  obtain ⟨c, ws, t, rfl, hS, q⟩ := h
  refine ⟨_, pss_one (ps_ret (pe_ifExp (pt_cmpR op_lt (pv 1) (pe_callB call_len_seq (by rfl) T.len PySem.boot_len (pa_cons (pv 0) pa_nil)) (nomark _)) (pe_ix ix_list (pv 0) (pv 1) (fun _ _ => rfl)) pe_non)), ?_⟩
  refine ⟨_, rfl, _, rfl, c, _, rfl, .inl hS, _, _, rfl, rfl, _, rfl, ?_⟩
  refine ite2 (fun c1 => ?_) (fun c1 => ?_)
  · have c2 : ((t : Nat) : Int) < ((ws.length : Nat) : Int) := of_decide_eq_true c1
    have ht : t < ws.length := by omega
    have e : ws.getD t .non = ws[t] := by rw [List.getD_eq_getElem?_getD, List.getElem?_eq_getElem ht]; rfl
    rw [e] at q
    exact ⟨_, rfl, _, rfl, c, _, _, _, rfl, rfl, hS, atI_nat (List.getElem?_eq_getElem ht), q⟩
  · have c2 : ¬ ((t : Nat) : Int) < ((ws.length : Nat) : Int) := of_decide_eq_false (Bool.eq_false_iff.mpr c1)
    have e : ws.getD t .non = .non := by rw [List.getD_eq_getElem?_getD, List.getElem?_eq_none (by omega)]; rfl
    rw [e] at q
    exact q
theorem scInputs : FnScope ["thing", "a"] ["thing"] (defScope sInputs) := ⟨rfl, rfl, rfl, by decide +kernel, rfl, by decide +kernel, by decide +kernel⟩
theorem ok_inputs {f g : Addr} {fd gd : FuncData} (F : Fun K "is_inputs" "is_inputs" sInputs f fd) (T : Txt K mg) (W : Def P w K mg base "is_whole" ["thing"] 1 spWhole g gd) : FnOk P w K mg base CX0 2 f fd ["thing"] spInputs := by
  refine F.ok scInputs (fun vs H Q E h => ?_) (fun cdv A outer s H vs Q E hr h => ?_)
  · obtain ⟨t, a, b, rfl, _⟩ := h
    rfl
  obtain ⟨t, a, b, rfl, ht, ha, hb, q⟩ := h
  have nd := scInputs.nd
  refine ⟨_, pss_one (ps_ret (pe_and (pe_callB call_isi (by rfl) T.isi boot_isinstance (pa_cons (pv 0) (pa_cons (pe_bltn (v := .ty "tuple") (by rfl) T.tuple boot_tuple rfl) pa_nil)))
    (pe_and (pe_cmpR op_eq (pe_callB call_len_seq (by rfl) T.len PySem.boot_len (pa_cons (pv 0) pa_nil)) pe_int (nomark _))
    (pe_one (pe_callB (cr_all rfl) (by rfl) T.all (by decide +kernel) (pa_cons
      (pe_lc (own := [("a", 1)]) (g := gName 1) (tt := tYes) (te := tAndV (tCall spWhole [] E0 (tCons (tVar 1) tNil)) (tOp (rI0 fun i j => .bl (decide (i ≥ j))) (tVar 1) (tC (.int 0)))) rfl nd (pi_tup (pv 0)) (blkOk_by (N := ["thing", "a"]) (sc := defScope sInputs) (by decide +kernel)) (fun _ _ _ _ _ => pg_name (i := 1) nd rfl (Or.inl rfl)) (fun _ _ _ _ _ => pts_nil)
        (fun _ _ _ _ _ => (by refine pe_and ?_ (pe_one ?_); (exact pe_call W.G hr rfl W.m W.k W.b .nil pass0 (pa_cons (pv 1) pa_nil)); (exact pe_cmpR op_ge (pv 1) pe_int (nomark _))))) pa_nil)))))), ?_⟩
  refine ⟨_, rfl, .ref t, .ty "tuple", _, _, true, rfl, .ty "tuple", .base (.tup ht), kit_ty (by decide +kernel), true, rfl, iteT ?_⟩
  refine ⟨_, rfl, t, _, rfl, .inr (SqT.of ht), rfl, true, rfl, iteT ?_⟩
  refine ⟨_, rfl, t, rfl, ⟨_, SqT.of ht⟩, fun D hD => ?_⟩
  have s0 := same_new hD (.lst [])
  refine tup_turns (xs := [V.int a, V.int b]) (fun i H' => Same H H' ∧ H' D = some (.lst ((List.replicate i true).map V.bl))) ⟨s0, upd_same⟩ (fun i H' _ h => SqT.of (h.1 _ _ ht)) ?_ ?_
  · rintro i x H' hx ⟨s1, h1⟩
    obtain ⟨z, rfl, hz⟩ : ∃ z : Int, x = .int z ∧ 0 ≤ z := by
      rcases i with _ | _ | i
      · exact ⟨a, by simpa using hx.symm, ha⟩
      · exact ⟨b, by simpa using hx.symm, hb⟩
      · simp at hx
    have hi : i < 2 := (List.getElem?_eq_some_iff.mp hx).1
    refine ⟨rfl, _, rfl, z, rfl, true, rfl, iteT ?_⟩
    refine ⟨_, rfl, _, _, rfl, rfl, _, h1, (by rw [List.length_map, List.length_replicate]; exact Nat.lt_of_lt_of_le hi (by decide)), fun b' o e => ?_, ?_⟩
    · rw [upd_ne (ne_of_none e hD)]
      exact s1 _ _ e
    · rw [upd_same]
      show some (HO.lst (_ ++ [V.bl (decide (z ≥ 0))])) = _
      rw [decide_eq_true (show z ≥ 0 from hz), rep_snoc]
  · rintro H' ⟨s1, h1⟩
    refine ⟨D, _, rfl, SqL.of h1, ?_⟩
    rw [all_rep]
    exact q _ s1
theorem scWeaving : FnScope ["thing", "rounds", "hand"] ["thing", "rounds"] (defScope sWeaving) := ⟨rfl, rfl, rfl, by decide +kernel, rfl, by decide +kernel, by decide +kernel⟩
theorem ok_weaving {f g : Addr} {fd gd : FuncData} (F : Fun K "is_weaving" "is_weaving" sWeaving f fd) (T : Txt K mg) (U : Txt2 K mg) (W : Def P w K mg base "is_hand" ["thing"] 3 spHand g gd) : FnOk P w K mg base CX0 4 f fd ["thing", "rounds"] (spWeaving K) := by
  refine F.ok scWeaving (fun vs H Q E h => ?_) (fun cdv A outer s H vs Q E hr h => ?_)
  · obtain ⟨p, hs, d, rfl, _⟩ := h
    rfl
  obtain ⟨p, hs, d, rfl, hS, hh, hc, hz, q⟩ := h
  obtain ⟨t2, m2⟩ := U.two
  obtain ⟨hA, mH, hH⟩ := U.hands
  have nd := scWeaving.nd
  have ty : TyX K H (.ref p) (.type "list") := by
    rcases hS with h | ⟨o, its, n, h1, h2, _⟩
    · rcases h with h | ⟨o, h⟩
      · exact .base (.lst h)
      · exact .base (.frz h)
    · exact .kList h1 h2
  refine ⟨_, pss_one (ps_ret (pe_and (pe_callB call_isi (by rfl) T.isi boot_isinstance (pa_cons (pv 0) (pa_cons (pe_bltn (v := .ty "list") (by rfl) T.list boot_list rfl) pa_nil)))
    (pe_and (pe_callB (cr_all rfl) (by rfl) T.all (by decide +kernel) (pa_cons
      (pe_lc (own := [("hand", 2)]) (g := gName 2) (tt := tYes) (te := tCall spHand [] E0 (tCons (tVar 2) tNil)) rfl nd (pi_list (pv 0)) (blkOk_by (N := ["thing", "rounds", "hand"]) (sc := defScope sWeaving) (by decide +kernel)) (fun _ _ _ _ _ => pg_name (i := 2) nd rfl (Or.inl rfl)) (fun _ _ _ _ _ => pts_nil)
        (fun _ _ _ _ _ => (by exact pe_call W.G hr rfl W.m W.k W.b .nil pass0 (pa_cons (pv 2) pa_nil)))) pa_nil))
    (pe_one (pe_callB (cr_all rfl) (by rfl) T.all (by decide +kernel) (pa_cons
      (pe_lc (own := [("hand", 2)]) (g := gName 2) (tt := tYes) (te := tOp (rI0 fun i j => .bl (decide (i ≤ j))) (tBM K "list" (rCntI K) (tVar 0) (tCons (tVar 2) tNil)) (tOp (rI CMul fun i j => .int (i * j)) (tC (.int 2)) (tVar 1))) rfl nd (pi_tup (pe_glob (v := .ref hA) rfl mH rfl)) (blkOk_by (N := ["thing", "rounds", "hand"]) (sc := defScope sWeaving) (by decide +kernel)) (fun _ _ _ _ _ => pg_name (i := 2) nd rfl (Or.inl rfl)) (fun _ _ _ _ _ => pts_nil)
        (fun _ _ _ _ _ => (by refine pe_cmpR op_le ?_ (pe_op op_mul ?_ (pv 1)) (nomark _); (exact pe_bm PySem.F.plainAttrs_list PySem.F.slot_list_count PySem.F.type_list_count mt_lcount (pv 0) (pa_cons (pv 2) pa_nil)); (exact pe_glob (v := .int 2) rfl m2 ⟨_, rfl⟩)))) pa_nil)))))), ?_⟩
  refine ⟨_, rfl, .ref p, .ty "list", _, _, true, rfl, .ty "list", ty, kit_ty (by decide +kernel), true, rfl, iteT ?_⟩
  refine ⟨_, rfl, p, rfl, ⟨_, hS⟩, fun D hD => ?_⟩
  have lenH : (hl hs).length = hs.length := List.length_map _
  refine list_turns (xs := hl hs) (fun i H' => Same H H' ∧ H' D = some (.lst ((List.replicate i true).map V.bl))) ⟨same_new hD _, upd_same⟩ (fun i H' _ h => h.1.seq hS) ?_ ?_
  · rintro i x H' hx ⟨s1, h1⟩
    have hi : i < (hl hs).length := (List.getElem?_eq_some_iff.mp hx).1
    obtain ⟨z, rfl, hz2⟩ : ∃ z : Nat, x = .int (z : Int) ∧ z < 2 := by
      unfold hl at hx
      rw [List.getElem?_map] at hx
      obtain ⟨z, e1, e2⟩ := Option.map_eq_some_iff.mp hx
      exact ⟨z, e2.symm, hh z (List.mem_of_getElem? e1)⟩
    have e1 : decide ((0 : Int) ≤ (z : Int) ∧ (z : Int) ≤ 1) = true := decide_eq_true (by omega)
    refine ⟨rfl, _, rfl, (z : Int), rfl, _, h1, (by rw [List.length_map, List.length_replicate]; exact Nat.lt_of_lt_of_le hi (by rw [lenH]; exact Nat.le_trans hz (by decide))), fun b' o e => ?_, ?_⟩
    · rw [upd_ne (ne_of_none e hD)]
      exact s1 _ _ e
    · rw [upd_same, e1, rep_snoc]
  · rintro H1 ⟨s1, h1⟩
    refine ⟨D, _, rfl, SqL.of h1, ?_⟩
    rw [all_rep]
    refine ⟨true, rfl, iteT ?_⟩
    refine ⟨hA, rfl, ⟨_, hH _⟩, fun D2 hD2 => ?_⟩
    refine tup_turns (xs := [V.int 0, V.int 1]) (fun i H' => Same H1 H' ∧ H' D2 = some (.lst ((List.replicate i true).map V.bl))) ⟨same_new hD2 _, upd_same⟩ (fun i H' _ h => hH _) ?_ ?_
    · rintro i x H' hx ⟨s2, h2⟩
      have hi : i < 2 := (List.getElem?_eq_some_iff.mp hx).1
      obtain ⟨z, rfl, hz2⟩ : ∃ z : Nat, x = .int (z : Int) ∧ z < 2 := by
        rcases i with _ | _ | i
        · exact ⟨0, by simpa using hx.symm, by decide⟩
        · exact ⟨1, by simpa using hx.symm, by decide⟩
        · simp at hx
      have hS2 := s2.seq (s1.seq hS)
      have cz := hc z hz2
      rw [← hl_count, ] at cz
      refine ⟨rfl, _, rfl, ?_, _, rfl, p, hs.map fun h : Nat => (h : Int), (z : Int), rfl, rfl, by rw [← hl_ints]; exact hS2, _, rfl, _, _, rfl, rfl, .inl ⟨by decide, by decide⟩, _, _, rfl, rfl, _, h2, (by rw [List.length_map, List.length_replicate]; exact Nat.lt_of_lt_of_le hi (by decide)), fun b' o e => ?_, ?_⟩
      · exact .inl ⟨rfl, _, hS2⟩
      · rw [upd_ne (ne_of_none e hD2)]
        exact s2 _ _ e
      · rw [upd_same]
        show some (HO.lst (_ ++ [V.bl (decide ((((hs.map fun h : Nat => (h : Int)).count (z : Int) : Nat) : Int) ≤ 2 * (d : Int)))])) = _
        rw [decide_eq_true (by omega), rep_snoc]
    · rintro H2 ⟨s2, h2⟩
      refine ⟨D2, _, rfl, SqL.of h2, ?_⟩
      rw [all_rep]
      exact q _ (s1.trans s2)
end
end TA

set_option Elab.async false
set_option maxRecDepth 100000
set_option maxHeartbeats 4000000
namespace TA
open PySem L2 PyProof.Rows
set_option linter.unusedVariables false
theorem ixN_two {h : Nat} (hh : h < 2) : ixN 2 (h : Int) = some h := by
  rcases h with _ | _ | h
  · rfl
  · rfl
  · omega
theorem at_two {α : Type} (f : Nat → α) {h : Nat} (hh : h < 2) : atI [f 0, f 1] (h : Int) = some (f h) := atI_nat (two_get f hh)
theorem same_upd {H0 H : Hp} {p : Addr} {o : HO} (s : Same H0 H) (f : H0 p = none) : Same H0 (upd H p o) := fun b u e => by
  rw [upd_ne (ne_of_none e f)]
  exact s _ _ e
structure KS (H0 H : Hp) (kn ce lo : Addr) (cs : Nat → Addr) (m : M) : Prop where
  same : Same H0 H
  f1 : H0 kn = none
  f2 : H0 ce = none
  f3 : H0 lo = none
  f4 : ∀ h < 2, H0 (cs h) = none
  n1 : kn ≠ ce
  n2 : kn ≠ lo
  n3 : ∀ h < 2, kn ≠ cs h
  n4 : ce ≠ lo
  n5 : ∀ h < 2, ce ≠ cs h
  n6 : ∀ h < 2, lo ≠ cs h
  n7 : cs 0 ≠ cs 1
  hk : ∃ v : Nat → V, H kn = some (.lst [v 0, v 1]) ∧ ∀ h < 2, Kn H (v h) (m.k h)
  he : H ce = some (.lst [.ref (cs 0), .ref (cs 1)])
  ho : H lo = some (.lst [.int (m.l 0 : Nat), .int (m.l 1 : Nat)])
  hc : ∀ h < 2, ∃ ws, H (cs h) = some (.lst ws) ∧ KnAll H ws (m.c h)
theorem cs_ne {cs : Nat → Addr} (n : cs 0 ≠ cs 1) {i h : Nat} (hi : i < 2) (hh : h < 2) (e : i ≠ h) : cs i ≠ cs h := by
  rcases i with _ | _ | i
  · rcases h with _ | _ | h
    · exact absurd rfl e
    · exact n
    · omega
  · rcases h with _ | _ | h
    · exact n.symm
    · exact absurd rfl e
    · omega
  · omega
theorem KS.put {H0 H : Hp} {kn ce lo : Addr} {cs : Nat → Addr} {m : M} (S : KS H0 H kn ce lo cs m) {h : Nat} (hh : h < 2) (c : ¬ m.l h < (m.c h).length) {ws : List V} {v : V} (hw : H (cs h) = some (.lst ws)) (ha : KnAll H ws (m.c h)) (hv : Kn H v (m.k h)) :
    KS H0 (upd H (cs h) (.lst (ws ++ [v]))) kn ce lo cs (m.step h) := by
  have es : m.step h = { k := m.k, c := upf m.c h (m.c h ++ [m.k h]), l := m.l } := by unfold M.step; rw [if_neg c]
  rw [es]
  have tu : Tups H (upd H (cs h) (.lst (ws ++ [v]))) := Tups.updL hw
  obtain ⟨vs, hk, hkn⟩ := S.hk
  refine { S with same := same_upd S.same (S.f4 h hh), hk := ⟨vs, ?_, fun i hi => (hkn i hi).mono tu⟩, he := ?_, ho := ?_, hc := fun i hi => ?_ }
  · rw [upd_ne (S.n3 h hh)]; exact hk
  · rw [upd_ne (S.n5 h hh)]; exact S.he
  · rw [upd_ne (S.n6 h hh)]; exact S.ho
  · by_cases e : i = h
    · subst e
      refine ⟨_, upd_same, ?_⟩
      show KnAll _ _ (upf m.c i (m.c i ++ [m.k i]) i)
      rw [upf_same]
      exact (ha.mono tu).snoc (hv.mono tu)
    · obtain ⟨ws2, h1, h2⟩ := S.hc i hi
      refine ⟨ws2, by rw [upd_ne (cs_ne S.n7 hi hh e)]; exact h1, ?_⟩
      show KnAll _ _ (upf m.c h (m.c h ++ [m.k h]) i)
      rw [upf_ne e]
      exact h2.mono tu
theorem KS.look {H0 H : Hp} {kn ce lo : Addr} {cs : Nat → Addr} {m : M} (S : KS H0 H kn ce lo cs m) {h : Nat} (hh : h < 2) (c : m.l h < (m.c h).length) {v : Nat → V} {w : V} {q : Addr} (hk : H kn = some (.lst [v 0, v 1])) (hkn : ∀ h < 2, Kn H (v h) (m.k h)) (hw : Kn H w ((m.c (1 - h)).getD (m.l h) .none)) (hq : H q = none) :
    KS H0 (upd (upd (upd H q (.tup [v h, w])) kn (.lst [upf v h (.ref q) 0, upf v h (.ref q) 1])) lo (.lst [.int (upf m.l h (m.l h + 1) 0 : Nat), .int (upf m.l h (m.l h + 1) 1 : Nat)])) kn ce lo cs (m.step h) := by
  have es : m.step h = { k := upf m.k h (.tuple [m.k h, (m.c (1 - h)).getD (m.l h) .none]), c := m.c, l := upf m.l h (m.l h + 1) } := by unfold M.step; rw [if_pos c]
  rw [es]
  have qk : kn ≠ q := ne_of_none hk hq
  have qe : ce ≠ q := ne_of_none S.he hq
  have ql : lo ≠ q := ne_of_none S.ho hq
  have t1 : Tups H (upd H q (.tup [v h, w])) := Tups.same (same_new hq _)
  have t2 : Tups H (upd (upd H q (.tup [v h, w])) kn (.lst [upf v h (.ref q) 0, upf v h (.ref q) 1])) := t1.trans (Tups.updL (by rw [upd_ne qk]; exact hk))
  have t3 : Tups H (upd (upd (upd H q (.tup [v h, w])) kn (.lst [upf v h (.ref q) 0, upf v h (.ref q) 1])) lo (.lst [.int (upf m.l h (m.l h + 1) 0 : Nat), .int (upf m.l h (m.l h + 1) 1 : Nat)])) := t2.trans (Tups.updL (by rw [upd_ne S.n2.symm, upd_ne ql]; exact S.ho))
  have hq3 : (upd (upd (upd H q (.tup [v h, w])) kn (.lst [upf v h (.ref q) 0, upf v h (.ref q) 1])) lo (.lst [.int (upf m.l h (m.l h + 1) 0 : Nat), .int (upf m.l h (m.l h + 1) 1 : Nat)])) q = some (.tup [v h, w]) := by
    rw [upd_ne ql.symm, upd_ne qk.symm, upd_same]
  refine { S with same := same_upd (same_upd (S.same.trans (same_new hq _)) S.f1) S.f3, hk := ⟨upf v h (.ref q), ?_, fun i hi => ?_⟩, he := ?_, ho := upd_same, hc := fun i hi => ?_ }
  · rw [upd_ne S.n2, upd_same]
  · show Kn _ (upf v h (.ref q) i) (upf m.k h (.tuple [m.k h, (m.c (1 - h)).getD (m.l h) .none]) i)
    by_cases e : i = h
    · subst e
      rw [upf_same, upf_same]
      exact .tup hq3 ((hkn i hi).mono t3) (hw.mono t3)
    · rw [upf_ne e, upf_ne e]
      exact (hkn i hi).mono t3
  · rw [upd_ne S.n4, upd_ne S.n1.symm, upd_ne qe]; exact S.he
  · obtain ⟨ws2, h1, h2⟩ := S.hc i hi
    exact ⟨ws2, by rw [upd_ne (S.n6 i hi).symm, upd_ne (S.n3 i hi).symm, upd_ne (ne_of_none h1 hq)]; exact h1, h2.mono t3⟩
/-- the answer of known (and of _law_behind) -/
def spTold (vs0 : List V → Hp → Addr → List Nat → Nat → Int → Int → Prop) : Sp := fun vs H Q _ => ∃ (p : Addr) (hs : List Nat) (d : Nat) (a b : Int), vs0 vs H p hs d a b ∧ (∀ h ∈ hs, h < 2) ∧ (∀ h < 2, hs.count h ≤ 2 * d) ∧ hs.length ≤ 40 ∧ d ≤ 5 ∧ 0 ≤ a ∧ 0 ≤ b ∧
  ∀ (o : Addr) (v : Nat → V) (H' : Hp), Same H H' → H o = none → H' o = some (.lst [v 0, v 1]) → (∀ h < 2, Kn H' (v h) (((M0 a b).run hs).res d h)) → Q (.ref o) H'
def spKnown (K : PySem.W.Frag) : Sp := spTold fun vs H p hs d a b => ∃ t, vs = [.ref t, .ref p, .int (d : Int)] ∧ H t = some (.tup [.int a, .int b]) ∧ SqL K H p (hl hs)
theorem nat_two {x : V} {i : Nat} (hx : ([V.int 0, V.int 1] : List V)[i]? = some x) : x = .int ((i : Nat) : Int) ∧ i < 2 := by
  rcases i with _ | _ | i
  · exact ⟨by simpa using hx.symm, by decide⟩
  · exact ⟨by simpa using hx.symm, by decide⟩
  · simp at hx
theorem hl_at {hs : List Nat} {i : Nat} {x : V} (hx : (hl hs)[i]? = some x) : ∃ z : Nat, x = .int (z : Int) ∧ hs[i]? = some z := by
  unfold hl at hx
  rw [List.getElem?_map] at hx
  obtain ⟨z, e1, e2⟩ := Option.map_eq_some_iff.mp hx
  exact ⟨z, e2.symm, e1⟩
end TA

set_option Elab.async false
set_option maxRecDepth 100000
set_option maxHeartbeats 4000000
namespace TA
open PySem L2 PyProof.Rows
set_option linter.unusedVariables false
theorem upf_map {α β : Type} (f : α → β) (g : Nat → α) (h : Nat) (x : α) (i : Nat) : upf (fun j => f (g j)) h (f x) i = f (upf g h x i) := by
  unfold upf
  by_cases e : i = h
  · rw [if_pos e, if_pos e]
  · rw [if_neg e, if_neg e]
theorem ints_set (l : Nat → Nat) {h : Nat} (hh : h < 2) (n : Nat) : ([.int (l 0 : Nat), .int (l 1 : Nat)] : List V).set h (.int (n : Int)) = [.int (upf l h n 0 : Nat), .int (upf l h n 1 : Nat)] := by
  have := two_set (fun j => V.int (l j : Nat)) hh (V.int (n : Int))
  rw [upf_map (fun n : Nat => V.int (n : Int)) l h n 0, upf_map (fun n : Nat => V.int (n : Int)) l h n 1] at this
  exact this
def outs (m : M) (d : Nat) (v : Nat → V) (h : Nat) : V := if m.l h = d then v h else .non
theorem int_eq {a b : Nat} : (V.int (a : Int) = V.int (b : Int)) ↔ a = b := ⟨fun e => by injection e with e; omega, fun e => by rw [e]⟩
section
variable {P : Program} {w : World} {K : PySem.W.Frag} {mg : Str → Option Value} {base : Heap}
abbrev nKnown : List Str := ["inputs", "weaving", "rounds", "knows", "cells", "looks", "hand"]
theorem scKnown : FnScope nKnown ["inputs", "weaving", "rounds"] (defScope sKnown) := ⟨rfl, rfl, rfl, by decide +kernel, rfl, by decide +kernel, by decide +kernel⟩
theorem ok_known {f g1 g2 g3 g4 : Addr} {fd d1 d2 d3 d4 : FuncData} (F : Fun K "known" "known" sKnown f fd) (T : Txt K mg) (U : Txt2 K mg) (W1 : Def P w K mg base "is_whole_within" ["thing", "least", "most"] 2 spWithin g1 d1)
    (W2 : Def P w K mg base "is_inputs" ["thing"] 2 spInputs g2 d2) (W3 : Def P w K mg base "is_weaving" ["thing", "rounds"] 4 (spWeaving K) g3 d3) (W4 : Def P w K mg base "put_in" ["cells", "at"] 1 (spPut K) g4 d4) :
    FnOk P w K mg base CX0 5 f fd ["inputs", "weaving", "rounds"] (spKnown K) := by
  refine F.ok scKnown (fun vs H Q E h => ?_) (fun cdv A outer s H vs Q E hr h => ?_)
  · obtain ⟨p, hs, d, a, b, ⟨t, rfl, _⟩, _⟩ := h
    rfl
  obtain ⟨p, hs, d, a, b, ⟨t, rfl, ht, hS⟩, hh, hc, hz, hd, ha, hb, q⟩ := h
  obtain ⟨t5, m5⟩ := U.five
  obtain ⟨hA, mH, hH⟩ := U.hands
  have nd := scKnown.nd
  refine ⟨_, pss_cons (ps_if (pt_not (pt_val (pe_call W1.G (hr.mono (by decide)) rfl W1.m W1.k W1.b .nil pass0 (pa_cons (pv 2) (pa_cons pe_int (pa_cons (pe_glob (v := .int 5) rfl m5 ⟨_, rfl⟩) pa_nil)))))) pss_never pss_nil)
    (pss_cons (ps_if (pt_not (pt_val (pe_call W2.G (hr.mono (by decide)) rfl W2.m W2.k W2.b .nil pass0 (pa_cons (pv 0) pa_nil)))) pss_never pss_nil)
    (pss_cons (ps_if (pt_not (pt_val (pe_call W3.G (hr.mono (by decide)) rfl W3.m W3.k W3.b .nil pass0 (pa_cons (pv 1) (pa_cons (pv 2) pa_nil))))) pss_never pss_nil)
    (pss_cons (ps_set (i := 3) nd rfl (Or.inr rfl) (pe_callTy call_list_of (by rfl) T.list boot_list (pa_cons (pv 0) pa_nil)))
    (pss_cons (ps_set (i := 4) nd rfl (Or.inl rfl) (pe_lst (pa_cons (pe_lst pa_nil) (pa_cons (pe_lst pa_nil) pa_nil))))
    (pss_cons (ps_set (i := 5) nd rfl (Or.inr rfl) (pe_lst (pa_cons pe_int (pa_cons pe_int pa_nil))))
    (pss_cons (ps_for PassesOwn.never rfl (pi_list (pv 1)) (pg_name (i := 6) nd rfl (Or.inl rfl))
      (pss_one (ps_if (pt_cmpR op_gt (pe_callB call_len_seq (by rfl) T.len PySem.boot_len (pa_cons (pe_ix ix_list (pv 4) (pv 6) (fun _ _ => rfl)) pa_nil)) (pe_ix ix_list (pv 5) (pv 6) (fun _ _ => rfl)) (nomark _))
        (pss_cons (ps_asg (pe_tup (pa_cons (pe_ix ix_list (pv 3) (pv 6) (fun _ _ => rfl)) (pa_cons (pe_call W4.G (hr.mono (by decide)) rfl W4.m W4.k W4.b .nil pass0 (pa_cons (pe_ix ix_list (pv 4) (pe_op op_sub pe_int (pv 6)) (fun _ _ => rfl)) (pa_cons (pe_ix ix_list (pv 5) (pv 6) (fun _ _ => rfl)) pa_nil))) pa_nil))) (pg_sub (pv 3) (pv 6) set_list))
          (pss_one (ps_augS (pv 5) (pv 6) get_list pe_int ip_add set_list)))
        (pss_one (ps_expr (pe_bm PySem.F.plainAttrs_list PySem.F.slot_list_append PySem.F.type_list_append mt_append (pe_ix ix_list (pv 4) (pv 6) (fun _ _ => rfl)) (pa_cons (pe_ix ix_list (pv 3) (pv 6) (fun _ _ => rfl)) pa_nil)))))))
    (pss_one (ps_ret (pe_lc (own := [("hand", 6)]) (g := gName 6) (tt := tYes) (te := tIf (tTest (tOp rEq (tOp (rIxL K) (tVar 5) (tVar 6)) (tVar 2))) (tOp (rIxL K) (tVar 3) (tVar 6)) (tC .non)) rfl nd (pi_tup (pe_glob (v := .ref hA) rfl mH rfl)) (blkOk_by (N := nKnown) (sc := defScope sKnown) (by decide +kernel)) (fun _ _ _ _ _ => pg_name (i := 6) nd rfl (Or.inl rfl)) (fun _ _ _ _ _ => pts_nil)
      (fun _ _ _ _ _ => (by refine pe_ifExp ?_ ?_ pe_non; (refine pt_cmpR op_eq ?_ (pv 2) (nomark _); exact pe_ix ix_list (pv 5) (pv 6) (fun _ _ => rfl)); (exact pe_ix ix_list (pv 3) (pv 6) (fun _ _ => rfl))))))))))))), ?_⟩
  have e5 : decide ((0 : Int) ≤ (d : Int) ∧ (d : Int) ≤ 5) = true := decide_eq_true (by omega)
  refine ⟨_, rfl, (d : Int), 0, 5, rfl, true, congrArg V.bl e5, iteF ?_⟩
  refine ⟨_, rfl, t, a, b, rfl, ht, ha, hb, fun H1 s1 => ⟨true, rfl, iteF ?_⟩⟩
  refine ⟨_, rfl, _, rfl, p, hs, d, rfl, s1.seq hS, hh, hc, by omega, fun H2 s2 => ⟨true, rfl, iteF ?_⟩⟩
  have s12 := s1.trans s2
  refine ⟨_, rfl, t, _, rfl, .inr (SqT.of (s12 _ _ ht)), fun kn hkn => ?_⟩
  refine ⟨Nat.zero_le _, fun c0 hc0 => ⟨Nat.zero_le _, fun c1 hc1 => ⟨(by show 2 ≤ sizeLine; decide), fun ce hce => ?_⟩⟩⟩
  refine ⟨(by show 2 ≤ sizeLine; decide), fun lo hlo => ?_⟩
  have sa := same_new hkn (.lst [V.int a, V.int b])
  have sb := sa.trans (same_new hc0 (.lst []))
  have sc := sb.trans (same_new hc1 (.lst []))
  have sd := sc.trans (same_new hce (.lst [V.ref c0, V.ref c1]))
  have se := sd.trans (same_new hlo (.lst [V.int 0, V.int 0]))
  have K0 : KS H2 (upd (upd (upd (upd (upd H2 kn (.lst [V.int a, V.int b])) c0 (.lst [])) c1 (.lst [])) ce (.lst [V.ref c0, V.ref c1])) lo (.lst [V.int 0, V.int 0])) kn ce lo (fun i => if i = 0 then c0 else c1) (M0 a b) := by
    have q1 := upd_same (H := H2) (a := kn) (o := .lst [V.int a, V.int b])
    have q2 := upd_same (H := upd H2 kn (.lst [V.int a, V.int b])) (a := c0) (o := .lst [])
    have q3 := upd_same (H := upd (upd H2 kn (.lst [V.int a, V.int b])) c0 (.lst [])) (a := c1) (o := .lst [])
    have q4 := upd_same (H := upd (upd (upd H2 kn (.lst [V.int a, V.int b])) c0 (.lst [])) c1 (.lst [])) (a := ce) (o := .lst [V.ref c0, V.ref c1])
    have b2 := same_new hc0 (.lst [])
    have b3 := same_new hc1 (.lst [])
    have b4 := same_new hce (.lst [V.ref c0, V.ref c1])
    have b5 := same_new hlo (.lst [V.int 0, V.int 0])
    have two : ∀ {R : Addr → Prop}, R c0 → R c1 → ∀ h < 2, R ((fun i : Nat => if i = 0 then c0 else c1) h) := fun r0 r1 h hh => by
      rcases h with _ | _ | h
      · exact r0
      · exact r1
      · omega
    refine { same := se, f1 := hkn, f2 := sc.free hce, f3 := sd.free hlo, f4 := two (R := fun c => H2 c = none) (sa.free hc0) (sb.free hc1), n1 := ne_of_none (b3 _ _ (b2 _ _ q1)) hce, n2 := ne_of_none (b4 _ _ (b3 _ _ (b2 _ _ q1))) hlo, n3 := two (R := fun c => kn ≠ c) (ne_of_none q1 hc0) (ne_of_none (b2 _ _ q1) hc1), n4 := ne_of_none q4 hlo, n5 := two (R := fun c => ce ≠ c) (ne_of_none (b3 _ _ q2) hce).symm (ne_of_none q3 hce).symm, n6 := two (R := fun c => lo ≠ c) (ne_of_none (b4 _ _ (b3 _ _ q2)) hlo).symm (ne_of_none (b4 _ _ q3) hlo).symm, n7 := ne_of_none q2 hc1, hk := ⟨fun i => if i = 0 then .int a else .int b, b5 _ _ (b4 _ _ (b3 _ _ (b2 _ _ q1))), fun h hh => ?_⟩, he := b5 _ _ q4, ho := upd_same, hc := ?_ }
    · rcases h with _ | _ | h
      · exact .int a
      · exact .int b
      · omega
    · intro h hh
      rcases h with _ | _ | h
      · exact ⟨[], b5 _ _ (b4 _ _ (b3 _ _ q2)), .nil⟩
      · exact ⟨[], b5 _ _ (b4 _ _ q3), .nil⟩
      · omega
  generalize (fun i : Nat => if i = 0 then c0 else c1) = cs at K0
  have lenH : (hl hs).length = hs.length := List.length_map _
  refine ⟨_, rfl, p, rfl, ⟨_, (s12.trans se).seq hS⟩, for_list (K := K) (a := p) (xs := hl hs) (fun i σ Hc => ∃ g, σ = [some (.ref t), some (.ref p), some (.int (d : Int)), some (.ref kn), some (.ref ce), some (.ref lo), g] ∧ KS H2 Hc kn ce lo cs ((M0 a b).run (hs.take i))) ⟨none, rfl, K0⟩ ?_ ?_ ?_⟩
  · rintro i σ Hc _ ⟨g, _, S⟩
    exact (s12.trans S.same).seq hS
  · rintro i x σ Hc hx ⟨g, rfl, S⟩
    obtain ⟨z, rfl, hz1⟩ := hl_at hx
    have hz2 : z < 2 := hh z (List.mem_of_getElem? hz1)
    have er : (M0 a b).run (hs.take (i + 1)) = ((M0 a b).run (hs.take i)).step z := by
      rw [List.take_add_one, hz1]
      exact M.run_snoc _ _ _
    rw [er]
    have hdn : ((M0 a b).run (hs.take i)).done z ≤ 40 := by
      rw [M.done_run]
      have h1 := List.count_le_length (a := z) (l := hs.take i)
      rw [List.length_take] at h1
      show 0 + 0 + _ ≤ 40
      omega
    generalize (M0 a b).run (hs.take i) = m at S hdn ⊢
    obtain ⟨v, hk, hkn'⟩ := S.hk
    obtain ⟨ws, hw, hwa⟩ := S.hc z hz2
    have hwl := hwa.len
    have he2 := at_two (fun i => V.ref (cs i)) hz2
    have ho2 := at_two (fun i => V.int ((m.l i : Nat) : Int)) hz2
    refine ⟨_, rfl, _, rfl, ce, _, _, _, rfl, rfl, SqL.of S.he, he2, cs z, ws, rfl, .inl (SqL.of hw), _, rfl, _, rfl, lo, _, _, _, rfl, rfl, SqL.of S.ho, ho2, _, _, rfl, rfl, _, rfl, ?_⟩
    refine ite2 (fun c1 => ?_) (fun c1 => ?_)
    · have c2 : ((m.l z : Nat) : Int) < ((ws.length : Nat) : Int) := of_decide_eq_true c1
      have c3 : m.l z < (m.c z).length := by omega
      obtain ⟨ws2, hw2, hwa2⟩ := S.hc (1 - z) (by omega)
      have he3 : atI [V.ref (cs 0), V.ref (cs 1)] ((1 : Int) - (z : Int)) = some (.ref (cs (1 - z))) := by
        rw [show (1 : Int) - (z : Int) = ((1 - z : Nat) : Int) by omega]
        exact at_two (fun i => V.ref (cs i)) (by omega)
      refine ⟨_, rfl, _, rfl, kn, _, _, _, rfl, rfl, SqL.of hk, at_two v hz2, _, rfl, _, rfl, _, _, rfl, rfl, ce, _, _, _, rfl, rfl, SqL.of S.he, he3, _, rfl, _, rfl, lo, _, _, _, rfl, rfl, SqL.of S.ho, ho2, cs (1 - z), ws2, m.l z, rfl, SqL.of hw2, (by show 2 ≤ sizeLine; decide), fun q0 hq0 => ?_⟩
      have n1 := ne_of_none hk hq0
      have n2 := ne_of_none S.ho hq0
      refine ⟨_, rfl, _, rfl, kn, [v 0, v 1], _, z, rfl, rfl, by rw [upd_ne n1]; exact hk, ixN_two hz2, ?_⟩
      have ho3 : (upd (upd Hc q0 (.tup [v z, ws2.getD (m.l z) .non])) kn (.lst ([v 0, v 1].set z (.ref q0)))) lo = some (.lst [.int (m.l 0 : Nat), .int (m.l 1 : Nat)]) := by
        rw [upd_ne S.n2.symm, upd_ne n2]
        exact S.ho
      refine ⟨_, rfl, _, rfl, lo, _, z, _, rfl, rfl, SqL.of ho3, two_get (fun i => V.int ((m.l i : Nat) : Int)) hz2, _, _, rfl, rfl, lo, [.int (m.l 0 : Nat), .int (m.l 1 : Nat)], _, z, rfl, rfl, ho3, ixN_two hz2, ?_⟩
      refine ⟨_, rfl, ?_⟩
      have r := S.look hz2 c3 hk hkn' (hwa2.getD (m.l z)) hq0
      rw [← two_set v hz2, ← ints_set m.l hz2] at r
      exact r
    · have c2 : ¬ ((m.l z : Nat) : Int) < ((ws.length : Nat) : Int) := of_decide_eq_false (Bool.eq_false_iff.mpr c1)
      have c3 : ¬ m.l z < (m.c z).length := by omega
      have hsz : ws.length < sizeLine := by
        unfold M.done at hdn
        exact Nat.lt_of_le_of_lt (show ws.length ≤ 40 by omega) (by decide)
      refine ⟨_, rfl, _, rfl, ce, _, _, _, rfl, rfl, SqL.of S.he, he2, .inl ⟨rfl, _, SqL.of hw⟩, _, rfl, _, rfl, kn, _, _, _, rfl, rfl, SqL.of hk, at_two v hz2, cs z, ws, _, rfl, rfl, hw, hsz, ?_⟩
      exact ⟨_, rfl, S.put hz2 c3 hw hwa (hkn' z hz2)⟩
  · rintro σ Hc ⟨g, rfl, S⟩
    rw [lenH, List.take_length] at S
    have wf := M.wf_run (M.wf0 a b) hh
    have dn : ∀ h < 2, ((M0 a b).run hs).done h ≤ 2 * d := fun h h2 => by
      rw [M.done_run]
      have := hc h h2
      show 0 + 0 + _ ≤ _
      omega
    generalize (M0 a b).run hs = m at S wf dn q ⊢
    obtain ⟨v, hk, hkn'⟩ := S.hk
    refine ⟨hA, rfl, ⟨_, hH _⟩, fun D hD => ?_⟩
    refine tup_turns (xs := [V.int 0, V.int 1]) (fun i H' => Same Hc H' ∧ H' D = some (.lst ([outs m d v 0, outs m d v 1].take i))) ⟨same_new hD _, upd_same⟩ (fun i H' _ h => hH _) ?_ ?_
    · rintro i x H' hx ⟨s3, h3⟩
      obtain ⟨rfl, hi⟩ := nat_two hx
      have fin : ∀ H'', Same H' H'' → ∃ acc, H'' D = some (.lst acc) ∧ acc.length < sizeLine ∧ (Same Hc (upd H'' D (.lst (acc ++ [outs m d v i]))) ∧ (upd H'' D (.lst (acc ++ [outs m d v i]))) D = some (.lst ([outs m d v 0, outs m d v 1].take (i + 1)))) := fun H'' s4 => by
        refine ⟨_, s4 _ _ h3, Nat.lt_of_le_of_lt (List.length_take_le i _) (Nat.lt_of_lt_of_le hi (by decide)), same_upd (s3.trans s4) hD, ?_⟩
        rw [upd_same, List.take_add_one, two_get (outs m d v) hi]
        all_goals rfl
      refine ⟨rfl, _, rfl, _, rfl, lo, _, _, _, rfl, rfl, SqL.of (s3 _ _ S.ho), at_two (fun i => V.int ((m.l i : Nat) : Int)) hi, _, rfl, rfl, _, rfl, ?_⟩
      refine ite2 (fun c1 => ?_) (fun c1 => ?_)
      · have c2 : m.l i = d := int_eq.mp (of_decide_eq_true c1)
        have r := fin H' (Same.refl _)
        rw [show outs m d v i = v i by unfold outs; rw [if_pos c2]] at r
        exact ⟨_, rfl, _, rfl, kn, _, _, _, rfl, rfl, SqL.of (s3 _ _ hk), at_two v hi, r⟩
      · have c2 : ¬ m.l i = d := fun e => c1 (decide_eq_true (int_eq.mpr e))
        have r := fin H' (Same.refl _)
        rw [show outs m d v i = .non by unfold outs; rw [if_neg c2]] at r
        exact r
    · rintro H' ⟨s3, h3⟩
      have sH := s12.trans (S.same.trans s3)
      refine q D (outs m d v) H' sH (s12.free (S.same.free hD)) h3 fun h h2 => ?_
      have st := M.stopped wf h2 (dn h h2)
      unfold outs M.res
      by_cases c : m.l h = d
      · rw [if_pos c, if_pos (st.mp c)]
        exact (hkn' h h2).mono (Tups.same s3)
      · rw [if_neg c, if_neg (fun e => c (st.mpr e))]
        exact .non
end
end TA

set_option Elab.async false
set_option maxRecDepth 100000
set_option maxHeartbeats 4000000
namespace TA
open PySem L2 PyProof.Rows
set_option linter.unusedVariables false
/-- all but what stands at a is as it was -/
def But (a : Addr) (H H' : Hp) : Prop := ∀ b o, b ≠ a → H b = some o → H' b = some o
def WellAt (H : Hp) (a : Addr) (n : Int) : Prop := ∃ x y z : Int, H a = some (.lst [.int x, .int y, .int z]) ∧ 0 ≤ x ∧ 0 ≤ y ∧ y < 2147483629 ∧ 0 ≤ z ∧ z ≤ n
theorem But.trans {a : Addr} {H H1 H2 : Hp} (h : But a H H1) (g : But a H1 H2) : But a H H2 := fun b o e q => g b o e (h b o e q)
theorem But.same {a : Addr} {H H' : Hp} (s : Same H H') : But a H H' := fun b o _ q => s b o q
theorem WellAt.same {H H' : Hp} {a : Addr} {n : Int} (s : Same H H') (w : WellAt H a n) : WellAt H' a n := by
  obtain ⟨x, y, z, h, r⟩ := w
  exact ⟨x, y, z, s _ _ h, r⟩
theorem WellAt.up {H : Hp} {a : Addr} {n m : Int} (w : WellAt H a n) (h : n ≤ m) : WellAt H a m := by
  obtain ⟨x, y, z, e, r1, r2, r3, r4, r5⟩ := w
  exact ⟨x, y, z, e, r1, r2, r3, r4, by omega⟩
theorem But.free {a : Addr} {H H' : Hp} {m : Int} (b : But a H H') (w : WellAt H' a m) {q : Addr} (h : H' q = none) : H q = none := by
  obtain ⟨x, y, z, e, _⟩ := w
  have nq : q ≠ a := fun c => by rw [c, e] at h; cases h
  cases g : H q with
  | none => rfl
  | some o => rw [b q o nq g] at h; cases h
def spDraw2 : Sp := fun vs H Q _ => ∃ (a : Addr) (n m : Int), vs = [.ref a, .int m] ∧ WellAt H a n ∧ n < 999999 ∧ 0 < m ∧ m < 2 ^ 100 ∧ ∀ (r : Int) (H' : Hp), 0 ≤ r → r < m → But a H H' → WellAt H' a (n + 1) → Q (.int r) H'
def spOne2 : Sp := fun vs H Q _ => ∃ (a l : Addr) (n : Int) (xs : List V), vs = [.ref a, .ref l] ∧ WellAt H a n ∧ n < 999999 ∧ H l = some (.lst xs) ∧ a ≠ l ∧ 0 < xs.length ∧ xs.length < 1000 ∧ ∀ (i : Nat) (v : V) (H' : Hp), xs[i]? = some v → But a H H' → WellAt H' a (n + 1) → Q v H'
theorem weak {P : Program} {w : World} {K : PySem.W.Frag} {mg : Str → Option Value} {base : Heap} {k : Nat} {f : Addr} {fd : FuncData} {ps : List Str} {sp sp' : Sp} (F : FnOk P w K mg base CX0 k f fd ps sp) (i : ∀ vs H Q E, sp' vs H Q E → sp vs H Q E) : FnOk P w K mg base CX0 k f fd ps sp' :=
  ⟨fun vs H Q E h => F.len vs H Q E (i _ _ _ _ h), fun A outer s H args us vs Q E a b c d h => F.run A outer s H args us vs Q E a b c d (i _ _ _ _ h)⟩
theorem draw_weak (vs : List V) (H : Hp) (Q : VK) (E : XK) (h : spDraw2 vs H Q E) : spDraw vs H Q E := by
  obtain ⟨a, n, m, rfl, ⟨x, y, z, e, r1, r2, r3, r4, r5⟩, hn, hm, hm2, q⟩ := h
  exact ⟨a, x, y, z, m, rfl, e, r1, r2, r3, r4, by omega, hm, hm2, fun r x' z' h0 h1 hx hz hz2 => q r _ h0 h1 (fun b o nb hb => by rw [upd_ne nb]; exact hb) ⟨x', y, z', upd_same, hx, r2, r3, by omega, by omega⟩⟩
theorem one_weak {K : PySem.W.Frag} (vs : List V) (H : Hp) (Q : VK) (E : XK) (h : spOne2 vs H Q E) : spOne K vs H Q E := by
  obtain ⟨a, l, n, xs, rfl, ⟨x, y, z, e, r1, r2, r3, r4, r5⟩, hn, hl, al, l0, l1, q⟩ := h
  exact ⟨a, l, x, y, z, xs, rfl, e, r1, r2, r3, r4, by omega, hl, al, l0, l1, fun i v x' z' hv hx hz hz2 => q i v _ hv (fun b o nb hb => by rw [upd_ne nb]; exact hb) ⟨x', y, z', upd_same, hx, r2, r3, by omega, by omega⟩⟩
/-- a weaving that is drawn -/
def spLW : Sp := fun vs H Q _ => ∃ (a : Addr) (n : Int) (d : Nat) (st : Bool), vs = [.ref a, .int (d : Int), .bl st] ∧ WellAt H a n ∧ n ≤ 900000 ∧ d ≤ 5 ∧
  ∀ (o : Addr) (hs : List Nat) (H' : Hp), But a H H' → WellAt H' a (n + 100) → H o = none → H' o = some (.lst (hl hs)) → (∀ h ∈ hs, h < 2) → (∀ h < 2, hs.count h ≤ 2 * d) → (st = false → ∀ h < 2, hs.count h = 2 * d) → Q (.ref o) H'
def avail (l : Nat → Nat) (i : Nat) : List Nat := (([0, 1] : List Nat).take i).filter fun h => decide (0 < l h)
theorem avail_mem {l : Nat → Nat} {i h : Nat} (m : h ∈ avail l i) : h < 2 ∧ 0 < l h := by
  unfold avail at m
  obtain ⟨m1, m2⟩ := List.mem_filter.mp m
  have m3 := List.mem_of_mem_take m1
  have : h = 0 ∨ h = 1 := by simpa using m3
  exact ⟨by omega, of_decide_eq_true m2⟩
theorem avail_step {l : Nat → Nat} {i : Nat} (hi : i < 2) : avail l (i + 1) = if 0 < l i then avail l i ++ [i] else avail l i := by
  unfold avail
  have e : ([0, 1] : List Nat)[i]? = some i := two_get (fun i => i) hi
  rw [List.take_add_one, e, List.filter_append]
  by_cases c : 0 < l i
  · rw [if_pos c]; simp [c]
  · rw [if_neg c]; simp [c]
theorem avail_len (l : Nat → Nat) (i : Nat) : (avail l i).length ≤ 2 := by
  unfold avail
  refine Nat.le_trans (List.length_filter_le _ _) ?_
  rw [List.length_take]
  exact Nat.min_le_right _ _
theorem avail_pos {l : Nat → Nat} (h : 0 < l 0 + l 1) : 0 < (avail l 2).length := by
  rw [avail_step (by decide), avail_step (by decide)]
  by_cases c : 0 < l 1
  · rw [if_pos c, List.length_append]; show 0 < _ + 1; omega
  · rw [if_neg c, if_pos (show 0 < l 0 by omega), List.length_append]; show 0 < _ + 1; omega
theorem hl_snoc (hs : List Nat) (z : Nat) : hl hs ++ [V.int (z : Int)] = hl (hs ++ [z]) := by
  unfold hl
  rw [List.map_append]
  rfl
theorem join {b : Bool} {X : Prop} {R : Hp → Prop} {H : Hp} (Iv : Hp → Prop) (h0 : Iv H) (k : ∀ Hc, Iv Hc → R Hc) (h1 : b = true → (∀ Hc, Iv Hc → R Hc) → X) : if b = true then X else R H := by
  cases b with
  | false => exact iteF (k H h0)
  | true => exact iteT (h1 rfl k)
def LWI (H : Hp) (a mn lf fo : Addr) (n : Int) (d : Nat) (st : Bool) (m : Nat) (σ : L2.St) (Hc : Hp) : Prop := ∃ (l : Nat → Nat) (hs : List Nat) (g1 g2 : Option V), m = l 0 + l 1 ∧
  σ = [some (.ref a), some (.int (d : Int)), some (.bl st), some (.ref mn), some (.ref lf), some (.ref fo), g1, g2] ∧ But a H Hc ∧ WellAt Hc a (n + 2 + 3 * (20 - ((l 0 + l 1 : Nat) : Int))) ∧
  Hc lf = some (.lst [.int (l 0 : Nat), .int (l 1 : Nat)]) ∧ Hc fo = some (.lst (hl hs)) ∧ (∀ h ∈ hs, h < 2) ∧ (∀ h < 2, hs.count h + l h ≤ 2 * d) ∧ (st = false → ∀ h < 2, hs.count h + l h = 2 * d)
theorem len_counts : ∀ hs : List Nat, (∀ h ∈ hs, h < 2) → hs.length = hs.count 0 + hs.count 1
  | [], _ => rfl
  | h :: r, q => by
    have ih := len_counts r (fun x hx => q x (List.mem_cons_of_mem _ hx))
    have h2 := q h List.mem_cons_self
    rw [List.length_cons, List.count_cons, List.count_cons, ih]
    rcases h with _ | _ | h
    · simp; omega
    · simp; omega
    · omega
theorem But.upd {a p : Addr} {H H' : Hp} {o : HO} (b : But a H H') (f : H p = none) : But a H (L2.upd H' p o) := fun c u nc e => by
  rw [upd_ne (ne_of_none e f)]
  exact b _ _ nc e
theorem WellAt.upd {a p : Addr} {H : Hp} {o : HO} {n : Int} (w : WellAt H a n) (f : a ≠ p) : WellAt (L2.upd H p o) a n := by
  obtain ⟨x, y, z, e, r⟩ := w
  exact ⟨x, y, z, by rw [upd_ne f]; exact e, r⟩
section
variable {P : Program} {w : World} {K : PySem.W.Frag} {mg : Str → Option Value} {base : Heap}
abbrev nLW : List Str := ["_law_well_here", "_law_deep", "_law_stops", "_law_many", "_law_left", "_law_found", "_law_hand", "_law_step"]
theorem scLW : FnScope nLW ["_law_well_here", "_law_deep", "_law_stops"] (defScope sLawWeav) := ⟨rfl, rfl, rfl, by decide +kernel, rfl, by decide +kernel, by decide +kernel⟩
theorem ok_lw {f g1 g2 : Addr} {fd d1 d2 : FuncData} (F : Fun K "_law_weaving" "_law_weaving" sLawWeav f fd) (T : Txt K mg) (D1 : Def P w K mg base "_law_draw" ["_law_well_here", "_law_many"] 1 spDraw2 g1 d1) (D2 : Def P w K mg base "_law_one" ["_law_well_here", "_law_some"] 2 spOne2 g2 d2) :
    FnOk P w K mg base CX0 3 f fd ["_law_well_here", "_law_deep", "_law_stops"] spLW := by
  refine F.ok scLW (fun vs H Q E h => ?_) (fun cdv A outer s H vs Q E hr h => ?_)
  · obtain ⟨a, n, d, st, rfl, _⟩ := h
    rfl
  obtain ⟨a, n, d, st, rfl, hW, hn, hd, q⟩ := h
  have nd := scLW.nd
  refine ⟨_, pss_cons (ps_set (i := 3) nd rfl (Or.inl rfl) (pe_lst (pa_cons (pe_op op_mul pe_int (pv 1)) (pa_cons (pe_op op_mul pe_int (pv 1)) pa_nil))))
    (pss_cons (ps_if (pt_val (pv 2)) (pss_one (ps_asg (pe_call D1.G (hr.mono (by decide)) rfl D1.m D1.k D1.b .nil pass0 (pa_cons (pv 0) (pa_cons (pe_op op_add (pe_op op_mul pe_int (pv 1)) pe_int) pa_nil))) (pg_sub (pv 3) (pe_call D1.G (hr.mono (by decide)) rfl D1.m D1.k D1.b .nil pass0 (pa_cons (pv 0) (pa_cons pe_int pa_nil))) set_list))) pss_nil)
    (pss_cons (ps_set (i := 4) nd rfl (Or.inr rfl) (pe_callTy call_list_of (by rfl) T.list boot_list (pa_cons (pv 3) pa_nil)))
    (pss_cons (ps_set (i := 5) nd rfl (Or.inl rfl) (pe_lst pa_nil))
    (pss_cons (ps_while PassesOwn.never (pt_cmpR op_gt (pe_callB (cr_sum rfl) (by rfl) T.sum (by decide +kernel) (pa_cons (pv 4) pa_nil)) pe_int (nomark _))
      (pss_cons (ps_set (i := 6) nd rfl (Or.inl rfl) (pe_call D2.G (hr.mono (by decide)) rfl D2.m D2.k D2.b .nil pass0 (pa_cons (pv 0) (pa_cons
          (pe_lc (own := [("_law_hand", 6)]) (g := gName 6) (tt := tTest (tOp (rI0 fun i j => .bl (decide (j < i))) (tOp (rIxL K) (tVar 4) (tVar 6)) (tC (.int 0)))) (te := tVar 6) rfl nd (pi_range1 rfl T.range (pa_cons pe_int pa_nil)) (blkOk_by (N := nLW) (sc := defScope sLawWeav) (by decide +kernel)) (fun _ _ _ _ _ => pg_name (i := 6) nd rfl (Or.inl rfl))
            (fun _ _ _ _ _ => (by refine pts_one (pt_cmpR op_gt ?_ pe_int (nomark _)); exact pe_ix ix_list (pv 4) (pv 6) (fun _ _ => rfl))) (fun _ _ _ _ _ => pv 6)) pa_nil))))
      (pss_one (ps_for PassesOwn.never rfl (pi_range1 rfl T.range (pa_cons (pe_callB (call_min2 rfl) (by rfl) T.min (by decide +kernel) (pa_cons (pe_ix ix_list (pv 4) (pv 6) (fun _ _ => rfl)) (pa_cons (pe_op op_add pe_int (pe_call D1.G (hr.mono (by decide)) rfl D1.m D1.k D1.b .nil pass0 (pa_cons (pv 0) (pa_cons (pe_call D2.G (hr.mono (by decide)) rfl D2.m D2.k D2.b .nil pass0 (pa_cons (pv 0) (pa_cons (pe_lst (pa_cons pe_int (pa_cons pe_int (pa_cons pe_int pa_nil)))) pa_nil))) pa_nil)))) pa_nil))) pa_nil)) (pg_name (i := 7) nd rfl (Or.inl rfl))
        (pss_cons (ps_expr (pe_bm PySem.F.plainAttrs_list PySem.F.slot_list_append PySem.F.type_list_append mt_append (pv 5) (pa_cons (pv 6) pa_nil)))
        (pss_one (ps_asg (pe_op op_sub (pe_ix ix_list (pv 4) (pv 6) (fun _ _ => rfl)) pe_int) (pg_sub (pv 4) (pv 6) set_list))))))))
    (pss_one (ps_ret (pv 5))))))), ?_⟩
  refine ⟨_, rfl, _, _, rfl, rfl, .inl ⟨by decide, by decide⟩, _, rfl, _, _, rfl, rfl, .inl ⟨by decide, by decide⟩, (by show 2 ≤ sizeLine; decide), fun mn hmn => ?_⟩
  obtain ⟨x0, y0, z0, ea, _⟩ := id hW
  have nam : a ≠ mn := ne_of_none ea hmn
  have s0 := same_new hmn (.lst [V.int (2 * (d : Int)), V.int (2 * (d : Int))])
  have hm1 : (upd H mn (.lst [V.int (2 * (d : Int)), V.int (2 * (d : Int))])) mn = some (.lst [V.int (2 * (d : Int)), V.int (2 * (d : Int))]) := upd_same
  have b0 : But a H (upd H mn (.lst [V.int (2 * (d : Int)), V.int (2 * (d : Int))])) := But.same s0
  have w0 : WellAt (upd H mn (.lst [V.int (2 * (d : Int)), V.int (2 * (d : Int))])) a n := hW.same s0
  generalize upd H mn (.lst [V.int (2 * (d : Int)), V.int (2 * (d : Int))]) = H1 at hm1 b0 w0 ⊢
  have e2d : V.int (2 * (d : Int)) = V.int ((2 * d : Nat) : Int) := by congr 1
  refine ⟨_, rfl, st, rfl, ?_⟩
  refine join (H := H1) (fun Hc => But a H Hc ∧ WellAt Hc a (n + 2) ∧ ∃ l : Nat → Nat, Hc mn = some (.lst [.int (l 0 : Nat), .int (l 1 : Nat)]) ∧ (∀ h < 2, l h ≤ 2 * d) ∧ (st = false → ∀ h < 2, l h = 2 * d)) ?_ ?_ ?_
  · refine ⟨b0, w0.up (by omega), fun _ => 2 * d, ?_, fun _ _ => Nat.le_refl _, fun _ _ _ => rfl⟩
    rw [hm1, e2d]
  · rintro Hc ⟨b1, w1, l, hl1, hl2, hl3⟩
    refine ⟨_, rfl, mn, _, rfl, .inl (SqL.of hl1), fun lf hlf => ⟨Nat.zero_le _, fun fo hfo => ?_⟩⟩
    obtain ⟨x1, y1, z1, ec, _⟩ := id w1
    have nalf : a ≠ lf := ne_of_none ec hlf
    have s1 := same_new hlf (.lst [V.int (l 0 : Nat), V.int (l 1 : Nat)])
    have s2 := s1.trans (same_new hfo (.lst []))
    have nafo : a ≠ fo := ne_of_none (s1 _ _ ec) hfo
    have nlfo : lf ≠ fo := ne_of_none upd_same hfo
    have H0lf : H lf = none := b1.free w1 hlf
    have H0fo : H fo = none := b1.free w1 (s1.free hfo)
    have hlf1 : (upd (upd Hc lf (.lst [V.int (l 0 : Nat), V.int (l 1 : Nat)])) fo (.lst [])) lf = some (.lst [V.int (l 0 : Nat), V.int (l 1 : Nat)]) := by rw [upd_ne nlfo]; exact upd_same
    refine ⟨LWI H a mn lf fo n d st, ⟨l 0 + l 1, l, [], none, none, rfl, rfl, b1.trans (But.same s2), ?_, hlf1, upd_same, (fun h hh => by cases hh), (fun h hh => ?_), fun e h hh => by have := hl3 e h hh; show 0 + _ = _; omega⟩, ?_⟩
    · refine (w1.same s2).up ?_
      have := hl2 0 (by decide)
      have := hl2 1 (by decide)
      omega
    · have := hl2 h hh
      show 0 + _ ≤ _
      omega
    rintro m σ Hw ⟨l, hs, g1, g2, rfl, rfl, bw, ww, hlw, hfw, hh, hcl, hce⟩
    have c0 := hcl 0 (by decide)
    have c1 := hcl 1 (by decide)
    have hlen := len_counts hs hh
    have esum : (([((l 0 : Nat) : Int), ((l 1 : Nat) : Int)] : List Int).sum) = ((l 0 + l 1 : Nat) : Int) := by
      simp [List.sum_cons]
    refine ⟨_, rfl, lf, [((l 0 : Nat) : Int), ((l 1 : Nat) : Int)], rfl, SqL.of hlw, _, _, rfl, rfl, _, rfl, ?_⟩
    rw [esum]
    refine ite2 (fun c => ?_) (fun c => ?_)
    · have cp : (0 : Int) < ((l 0 + l 1 : Nat) : Int) := of_decide_eq_true c
      refine ⟨fun σ' H' => ∃ m', m' < l 0 + l 1 ∧ LWI H a mn lf fo n d st m' σ' H', fun σ' H' h => h, ?_⟩
      refine ⟨_, rfl, 2, rfl, by decide, by decide, fun D hD => ?_⟩
      obtain ⟨xw, yw, zw, ew, _⟩ := id ww
      have naD : a ≠ D := ne_of_none ew hD
      refine range_turns (n := 2) (fun i H' => Same Hw H' ∧ H' D = some (.lst (hl (avail l i)))) ⟨same_new hD _, upd_same⟩ ?_ ?_
      · rintro i H' hi ⟨s3, h3⟩
        have ei : (0 : Int) + (i : Int) = (i : Int) := by omega
        rw [ei]
        refine ⟨rfl, _, rfl, _, rfl, lf, _, _, _, rfl, rfl, SqL.of (s3 _ _ hlw), at_two (fun i => V.int ((l i : Nat) : Int)) hi, _, _, rfl, rfl, _, rfl, ?_⟩
        have al := avail_len l i
        refine ite2 (fun c2 => ?_) (fun c2 => ?_)
        · have c3 : (0 : Int) < ((l i : Nat) : Int) := of_decide_eq_true c2
          refine ⟨_, rfl, _, h3, (by unfold hl; rw [List.length_map]; exact Nat.lt_of_le_of_lt al (by decide)), same_upd s3 hD, ?_⟩
          rw [upd_same, hl_snoc, avail_step hi, if_pos (by omega)]
        · have c3 : ¬ (0 : Int) < ((l i : Nat) : Int) := of_decide_eq_false (Bool.eq_false_iff.mpr c2)
          rw [avail_step hi, if_neg (by omega)]
          exact ⟨s3, h3⟩
      · rintro H' ⟨s3, h3⟩
        have pos := avail_pos (l := l) (by omega)
        have al := avail_len l 2
        have lenA : (hl (avail l 2)).length = (avail l 2).length := List.length_map _
        refine ⟨a, D, _, _, rfl, ww.same s3, by omega, h3, naD, by omega, by omega, fun i v H2 hv b2 w2 => ?_⟩
        obtain ⟨z, rfl, hz⟩ := hl_at hv
        obtain ⟨hz2, hzl⟩ := avail_mem (List.mem_of_getElem? hz)
        have hlw2 : H2 lf = _ := b2 _ _ nalf.symm (s3 _ _ hlw)
        have hfw2 : H2 fo = _ := b2 _ _ nafo.symm (s3 _ _ hfw)
        refine ⟨_, rfl, _, rfl, lf, _, _, _, rfl, rfl, SqL.of hlw2, at_two (fun i => V.int ((l i : Nat) : Int)) hz2, _, rfl, _, rfl, (by show 3 ≤ sizeLine; decide), fun D2 hD2 => ?_⟩
        obtain ⟨xv, yv, zv, ev, _⟩ := id w2
        have s4 := same_new hD2 (.lst [V.int 1, V.int 2, V.int 5])
        refine ⟨a, D2, _, _, rfl, w2.same s4, by omega, upd_same, ne_of_none ev hD2, by decide, by decide, fun i2 v2 H3 hv2 b3 w3 => ?_⟩
        obtain ⟨r, rfl, rp, rq⟩ : ∃ r : Int, v2 = .int r ∧ 0 < r ∧ r ≤ 5 := by
          rcases i2 with _ | _ | _ | i2
          · exact ⟨1, by simpa using hv2.symm, by decide, by decide⟩
          · exact ⟨2, by simpa using hv2.symm, by decide, by decide⟩
          · exact ⟨5, by simpa using hv2.symm, by decide, by decide⟩
          · simp at hv2
        refine ⟨a, _, r, rfl, w3, by omega, rp, by omega, fun r2 H4 p0 p1 b4 w4 => ?_⟩
        have b24 : But a H2 H4 := ((But.same s4).trans b3).trans b4
        have hlw4 : H4 lf = _ := b24 _ _ nalf.symm hlw2
        have hfw4 : H4 fo = _ := b24 _ _ nafo.symm hfw2
        have bw4 : But a H H4 := ((bw.trans (But.same s3)).trans b2).trans b24
        refine ⟨_, _, rfl, rfl, _, _, rfl, ?_⟩
        have hk1 : 1 ≤ (if 1 + r2 < ((l z : Nat) : Int) then 1 + r2 else ((l z : Nat) : Int)) ∧ (if 1 + r2 < ((l z : Nat) : Int) then 1 + r2 else ((l z : Nat) : Int)) ≤ ((l z : Nat) : Int) := by
          split <;> omega
        generalize (if 1 + r2 < ((l z : Nat) : Int) then 1 + r2 else ((l z : Nat) : Int)) = kk at hk1 ⊢
        have hzd := hcl z hz2
        refine ⟨kk, rfl, by omega, by omega, ?_⟩
        refine for_range (n := kk.toNat) (fun j σ Hj => ∃ g2, σ = [some (.ref a), some (.int (d : Int)), some (.bl st), some (.ref mn), some (.ref lf), some (.ref fo), some (.int (z : Int)), g2] ∧ But a H Hj ∧ WellAt Hj a (n + 2 + 3 * (20 - ((l 0 + l 1 : Nat) : Int)) + 1 + 1 + 1) ∧ Hj lf = some (.lst [.int (upf l z (l z - j) 0 : Nat), .int (upf l z (l z - j) 1 : Nat)]) ∧ Hj fo = some (.lst (hl (hs ++ List.replicate j z)))) ?_ ?_ ?_
        · refine ⟨_, rfl, bw4, w4, ?_, by rw [List.replicate_zero, List.append_nil]; exact hfw4⟩
          rw [hlw4, ← ints_set l hz2 (l z - 0), Nat.sub_zero]
          rcases z with _ | _ | z
          · rfl
          · rfl
          · omega
        · rintro j σ Hj hj ⟨g2, rfl, bj, wj, hlj, hfj⟩
          have hszj : (hl (hs ++ List.replicate j z)).length < sizeLine := by
            unfold hl
            rw [List.length_map, List.length_append, List.length_replicate]
            exact Nat.lt_of_le_of_lt (show hs.length + j ≤ 100 by omega) (by decide)
          refine ⟨_, rfl, .inl ⟨rfl, _, SqL.of hfj⟩, _, rfl, fo, _, _, rfl, rfl, hfj, hszj, ?_⟩
          have hlj2 : (upd Hj fo (.lst (hl (hs ++ List.replicate j z) ++ [V.int (z : Int)]))) lf = some (.lst [.int (upf l z (l z - j) 0 : Nat), .int (upf l z (l z - j) 1 : Nat)]) := by
            rw [upd_ne nlfo]; exact hlj
          refine ⟨_, rfl, _, rfl, lf, _, _, _, rfl, rfl, SqL.of hlj2, at_two (fun i => V.int ((upf l z (l z - j) i : Nat) : Int)) hz2, _, _, rfl, rfl, _, rfl, _, rfl, lf, [.int (upf l z (l z - j) 0 : Nat), .int (upf l z (l z - j) 1 : Nat)], _, z, rfl, rfl, hlj2, ixN_two hz2, ?_⟩
          refine ⟨_, rfl, (bj.upd H0fo).upd H0lf, (wj.upd nafo).upd nalf, ?_, ?_⟩
          · rw [upd_same]
            have e1 : ((upf l z (l z - j) z : Nat) : Int) - 1 = ((l z - (j + 1) : Nat) : Int) := by
              rw [upf_same]; omega
            show some (HO.lst (([V.int (upf l z (l z - j) 0 : Nat), V.int (upf l z (l z - j) 1 : Nat)]).set z (V.int (((upf l z (l z - j) z : Nat) : Int) - 1)))) = _
            rw [e1, ints_set (upf l z (l z - j)) hz2]
            have e2 : ∀ i, upf (upf l z (l z - j)) z (l z - (j + 1)) i = upf l z (l z - (j + 1)) i := fun i => by
              unfold upf
              split <;> rfl
            rw [e2, e2]
          · rw [upd_ne nlfo.symm, upd_same, hl_snoc, List.append_assoc, List.replicate_succ']
        · rintro σ Hj ⟨g2, rfl, bj, wj, hlj, hfj⟩
          have ek : kk = ((kk.toNat : Nat) : Int) := by omega
          have hsum : upf l z (l z - kk.toNat) 0 + upf l z (l z - kk.toNat) 1 + kk.toNat = l 0 + l 1 := by
            obtain rfl | rfl : z = 0 ∨ z = 1 := by omega
            · show l 0 - kk.toNat + l 1 + kk.toNat = _; omega
            · show l 0 + (l 1 - kk.toNat) + kk.toNat = _; omega
          refine ⟨_, ?_, upf l z (l z - kk.toNat), hs ++ List.replicate kk.toNat z, some (.int (z : Int)), g2, rfl, rfl, bj, wj.up (by omega), hlj, hfj, ?_, ?_, ?_⟩
          · omega
          · intro h hm
            rcases List.mem_append.mp hm with hm | hm
            · exact hh h hm
            · rw [List.eq_of_mem_replicate hm]; exact hz2
          · intro h h2
            have := hcl h h2
            rw [List.count_append, List.count_replicate]
            by_cases e : h = z
            · subst e
              rw [upf_same]
              simp
              omega
            · rw [upf_ne e]
              have e2 : ¬ z = h := fun q => e q.symm
              simp [e2]
              omega
          · intro es h h2
            have := hce es h h2
            have := hcl h h2
            rw [List.count_append, List.count_replicate]
            by_cases e : h = z
            · subst e
              rw [upf_same]
              simp
              omega
            · rw [upf_ne e]
              have e2 : ¬ z = h := fun q => e q.symm
              simp [e2]
              omega
    · have cp : ¬ (0 : Int) < ((l 0 + l 1 : Nat) : Int) := of_decide_eq_false (Bool.eq_false_iff.mpr c)
      exact ⟨_, rfl, q fo hs Hw bw (ww.up (by omega)) H0fo hfw hh (fun h h2 => by have := hcl h h2; omega) (fun e h h2 => by
        have := hce e h h2
        have c0' := hcl 0 (by decide)
        have l0 : l 0 = 0 := by omega
        have l1 : l 1 = 0 := by omega
        obtain rfl | rfl : h = 0 ∨ h = 1 := by omega
        · omega
        · omega)⟩
  · intro est k
    refine ⟨_, rfl, _, rfl, _, _, rfl, rfl, .inl ⟨by decide, by decide⟩, _, _, rfl, rfl, a, n, _, rfl, w0, by omega, by omega, by omega, fun r H2 r0 r1 b1 w1 => ?_⟩
    refine ⟨_, rfl, _, rfl, a, n + 1, 2, rfl, w1, by omega, by decide, by decide, fun r2 H3 p0 p1 b2 w2 => ?_⟩
    have hm3 : H3 mn = some (.lst [V.int (2 * (d : Int)), V.int (2 * (d : Int))]) := b2 _ _ nam.symm (b1 _ _ nam.symm hm1)
    have hr2 : r2.toNat < 2 := by omega
    have er2 : r2 = ((r2.toNat : Nat) : Int) := by omega
    refine ⟨mn, [V.int (2 * (d : Int)), V.int (2 * (d : Int))], r2, r2.toNat, rfl, rfl, hm3, by rw [er2]; exact ixN_two hr2, ?_⟩
    refine k _ ⟨((b0.trans b1).trans b2).upd hmn, (w2.upd nam).up (by omega), upf (fun _ => 2 * d) r2.toNat r.toNat, ?_, fun h hh => ?_, fun e => by rw [est] at e; cases e⟩
    · rw [upd_same, e2d, ← ints_set (fun _ => 2 * d) hr2 r.toNat, show ((r.toNat : Nat) : Int) = r by omega]
    · unfold upf
      split
      · omega
      · exact Nat.le_refl _
end
end TA

set_option Elab.async false
set_option maxRecDepth 100000
set_option maxHeartbeats 4000000
namespace TA
open PySem L2 PyProof.Rows
set_option linter.unusedVariables false
/-! places, in plain mathematics -/
abbrev Stands := Int × Option Int × Option Int
def agr : Option Int → Option Int → Bool
  | some a, some b => decide (a = b)
  | _, _ => true
def fst2 : Option Int → Option Int → Option Int
  | none, b => b
  | some a, _ => some a
def metD (u v : Stands) : Option Stands :=
  if (v.1 - u.1).natAbs = 1 ∧ agr u.2.1 v.2.1 = true ∧ agr u.2.2 v.2.2 = true then some (3 * u.1 + 2 * (v.1 - u.1), fst2 u.2.1 v.2.1, fst2 u.2.2 v.2.2) else none
def isN : PyData → Bool
  | .none => true
  | _ => false
def stand1 (u : Option Stands) (y : PyData) (v : Option Stands) : Option Stands := u.bind fun u => if isN y = true then some (3 * u.1, u.2.1, u.2.2) else v.bind (metD u)
def stand : Nat → PyData → Nat → Option Stands
  | 0, .int i, h => if 0 ≤ i then some (if h = 0 then (0, some i, none) else (1, none, some i)) else none
  | r + 1, .tuple [x, y], h => stand1 (stand r x h) y (stand r y (1 - h))
  | _, _, _ => none
/-- how deep, at most n -/
def rb : Nat → PyData → Nat
  | n + 1, .tuple [x, _] => rb n x + 1
  | _, _ => 0
def placeD (d : PyData) (h : Nat) : Option Int := (stand (rb 5 d) d h).map (·.1)
theorem stand0 {d : PyData} {h : Nat} {u : Stands} (e : stand 0 d h = some u) : ∃ i : Int, d = .int i ∧ 0 ≤ i ∧ u = (if h = 0 then (0, some i, none) else (1, none, some i)) := by
  cases d with
  | int i =>
    simp only [stand] at e
    split at e
    · cases e; exact ⟨i, rfl, by assumption, rfl⟩
    · cases e
  | _ => simp [stand] at e
theorem standS {r : Nat} {d : PyData} {h : Nat} {u : Stands} (e : stand (r + 1) d h = some u) : ∃ x y u0, d = .tuple [x, y] ∧ stand r x h = some u0 ∧ ((isN y = true ∧ u = (3 * u0.1, u0.2.1, u0.2.2)) ∨ (isN y = false ∧ ∃ v, stand r y (1 - h) = some v ∧ metD u0 v = some u)) := by
  match d, e with
  | .tuple [x, y], e =>
    simp only [stand, stand1] at e
    cases e1 : stand r x h with
    | none => rw [e1] at e; cases e
    | some u0 =>
      rw [e1] at e
      refine ⟨x, y, u0, rfl, e1, ?_⟩
      by_cases c : isN y = true
      · rw [Option.bind_some, if_pos c] at e
        exact .inl ⟨c, by cases e; rfl⟩
      · rw [Option.bind_some, if_neg c] at e
        cases e2 : stand r y (1 - h) with
        | none => rw [e2] at e; cases e
        | some v =>
          rw [e2] at e
          exact .inr ⟨Bool.eq_false_iff.mpr c, v, rfl, e⟩
  | .none, e => simp [stand] at e
  | .bool _, e => simp [stand] at e
  | .int _, e => simp [stand] at e
  | .str _, e => simp [stand] at e
  | .list _, e => simp [stand] at e
  | .dict _, e => simp [stand] at e
  | .tuple [], e => simp [stand] at e
  | .tuple [_], e => simp [stand] at e
  | .tuple (_ :: _ :: _ :: _), e => simp [stand] at e
theorem stand_rb : ∀ {r : Nat} {d : PyData} {h : Nat} {u : Stands}, stand r d h = some u → ∀ n, rb n d = min n r
  | 0, d, h, u, e, n => by
    obtain ⟨i, rfl, _⟩ := stand0 e
    cases n <;> simp [rb]
  | r + 1, d, h, u, e, n => by
    obtain ⟨x, y, u0, rfl, e0, _⟩ := standS e
    cases n with
    | zero => simp [rb]
    | succ n => simp only [rb]; rw [stand_rb e0 n]; omega
theorem stand_isN {r : Nat} {d : PyData} {h : Nat} {u : Stands} (e : stand r d h = some u) : isN d = false := by
  cases r with
  | zero => obtain ⟨i, rfl, _⟩ := stand0 e; rfl
  | succ r => obtain ⟨x, y, u0, rfl, _⟩ := standS e; rfl
theorem stand_uniq {r r' : Nat} {d : PyData} {h h' : Nat} {u u' : Stands} (e : stand r d h = some u) (e' : stand r' d h' = some u') : r = r' := by
  have a := stand_rb e (r + r')
  have b := stand_rb e' (r + r')
  omega
theorem metD_some {u v w : Stands} (e : metD u v = some w) : (v.1 - u.1).natAbs = 1 ∧ agr u.2.1 v.2.1 = true ∧ agr u.2.2 v.2.2 = true ∧ w = (3 * u.1 + 2 * (v.1 - u.1), fst2 u.2.1 v.2.1, fst2 u.2.2 v.2.2) := by
  unfold metD at e
  split at e
  · rename_i c
    cases e
    exact ⟨c.1, c.2.1, c.2.2, rfl⟩
  · cases e
/-- a hand's own input is known, also where the thing is taken for the other hand's -/
theorem stand_own : ∀ {r : Nat} {d : PyData}, ∃ a : Int, (∀ u, stand r d 0 = some u → u.2.1 = some a ∧ (u.2.2 = none → u.1 = 0)) ∧ (∀ v, stand r d 1 = some v → v.2.2 = some a ∧ (v.2.1 = none → v.1 = 3 ^ r)) ∧ (∀ u v, stand r d 0 = some u → stand r d 1 = some v → u.2.2 = none ∨ v.2.1 = none → u.1 = 0 ∧ v.1 = 3 ^ r)
  | 0, d => by
    by_cases q : ∃ i, d = .int i
    · obtain ⟨i, rfl⟩ := q
      refine ⟨i, fun u e => ?_, fun v e => ?_, fun u v e f _ => ?_⟩
      · obtain ⟨j, ej, _, rfl⟩ := stand0 e
        cases ej
        exact ⟨rfl, fun _ => rfl⟩
      · obtain ⟨j, ej, _, rfl⟩ := stand0 e
        cases ej
        exact ⟨rfl, fun _ => rfl⟩
      · obtain ⟨j, ej, _, rfl⟩ := stand0 e
        obtain ⟨j2, ej2, _, rfl⟩ := stand0 f
        exact ⟨rfl, rfl⟩
    · have no : ∀ h u, stand 0 d h ≠ some u := fun h u e => by
        obtain ⟨i, ei, _⟩ := stand0 e
        exact q ⟨i, ei⟩
      exact ⟨0, fun u e => absurd e (no _ _), fun u e => absurd e (no _ _), fun u v e => absurd e (no _ _)⟩
  | r + 1, d => by
    by_cases q : ∃ x y, d = .tuple [x, y]
    · obtain ⟨x, y, rfl⟩ := q
      obtain ⟨a, h0, h1, h2⟩ := stand_own (r := r) (d := x)
      obtain ⟨b, k0, k1, k2⟩ := stand_own (r := r) (d := y)
      have p3 : (3 : Int) ^ (r + 1) = 3 * 3 ^ r := by rw [Int.pow_succ]; omega
      refine ⟨a, fun u e => ?_, fun v e => ?_, fun u v e f g => ?_⟩
      · obtain ⟨x', y', u0, ed, e0, e1⟩ := standS e
        cases ed
        obtain ⟨g1, g2⟩ := h0 _ e0
        rcases e1 with ⟨_, rfl⟩ | ⟨_, v, ev, em⟩
        · exact ⟨g1, fun z => by have := g2 z; show 3 * u0.1 = 0; omega⟩
        · obtain ⟨_, _, _, rfl⟩ := metD_some em
          obtain ⟨g3, _⟩ := k1 _ ev
          refine ⟨by show fst2 u0.2.1 v.2.1 = _; rw [g1]; rfl, fun z => ?_⟩
          have z' : fst2 u0.2.2 v.2.2 = none := z
          rw [g3] at z'
          cases e9 : u0.2.2 <;> rw [e9] at z' <;> cases z'
      · obtain ⟨x', y', u0, ed, e0, e1⟩ := standS e
        cases ed
        obtain ⟨g1, g2⟩ := h1 _ e0
        rcases e1 with ⟨_, rfl⟩ | ⟨_, v', ev, em⟩
        · exact ⟨g1, fun z => by have := g2 z; show 3 * u0.1 = _; omega⟩
        · obtain ⟨_, _, _, rfl⟩ := metD_some em
          obtain ⟨g3, _⟩ := k0 _ ev
          refine ⟨by show fst2 u0.2.2 v'.2.2 = _; rw [g1]; rfl, fun z => ?_⟩
          have z' : fst2 u0.2.1 v'.2.1 = none := z
          rw [g3] at z'
          cases e9 : u0.2.1 <;> rw [e9] at z' <;> cases z'
      · obtain ⟨x', y', u0, ed, e0, e1⟩ := standS e
        cases ed
        obtain ⟨x', y', v0, ed, f0, f1⟩ := standS f
        cases ed
        rcases e1 with ⟨_, rfl⟩ | ⟨c, v', ev, em⟩
        · rcases f1 with ⟨_, rfl⟩ | ⟨c, v', ev, em⟩
          · obtain ⟨z1, z2⟩ := h2 _ _ e0 f0 g
            exact ⟨by show 3 * u0.1 = 0; omega, by show 3 * v0.1 = _; omega⟩
          · rename_i c'
            rw [c] at c'; cases c'
        · rcases f1 with ⟨c', _⟩ | ⟨_, w, fw, fm⟩
          · rw [c] at c'; cases c'
          · obtain ⟨_, _, _, rfl⟩ := metD_some em
            obtain ⟨_, _, _, rfl⟩ := metD_some fm
            obtain ⟨g3, _⟩ := k1 _ ev
            obtain ⟨g4, _⟩ := k0 _ fw
            rcases g with g | g
            · have z' : fst2 u0.2.2 v'.2.2 = none := g
              rw [g3] at z'
              cases e9 : u0.2.2 <;> rw [e9] at z' <;> cases z'
            · have z' : fst2 v0.2.1 w.2.1 = none := g
              rw [g4] at z'
              cases e9 : v0.2.1 <;> rw [e9] at z' <;> cases z'
    · have no : ∀ h u, stand (r + 1) d h ≠ some u := fun h u e => by
        obtain ⟨x, y, _, ei, _⟩ := standS e
        exact q ⟨x, y, ei⟩
      exact ⟨0, fun u e => absurd e (no _ _), fun u e => absurd e (no _ _), fun u v e => absurd e (no _ _)⟩
/-- the inputs that stand in what hand h knows, of inputs a, b -/
def inp (a b : Int) (h : Nat) (u : Stands) : Prop := (u.2.1 = some a ∨ (h = 1 ∧ u.2.1 = none)) ∧ (u.2.2 = some b ∨ (h = 0 ∧ u.2.2 = none))
def At (a b : Int) (r : Nat) (d : PyData) (h : Nat) (j : Int) : Prop := ∃ u, stand r d h = some u ∧ u.1 = j ∧ inp a b h u
theorem At.int {a b : Int} (ha : 0 ≤ a) (hb : 0 ≤ b) {h : Nat} (hh : h < 2) : At a b 0 (if h = 0 then .int a else .int b) h (if h = 0 then 0 else 1) := by
  obtain rfl | rfl : h = 0 ∨ h = 1 := by omega
  · exact ⟨(0, some a, none), by simp [stand, ha], rfl, .inl rfl, .inr ⟨rfl, rfl⟩⟩
  · exact ⟨(1, none, some b), by simp [stand, hb], rfl, .inr ⟨rfl, rfl⟩, .inl rfl⟩
theorem At.alone {a b : Int} {r : Nat} {d : PyData} {h : Nat} {j : Int} (k : At a b r d h j) : At a b (r + 1) (.tuple [d, .none]) h (3 * j) := by
  obtain ⟨u, e, rfl, i⟩ := k
  exact ⟨(3 * u.1, u.2.1, u.2.2), by simp [stand, stand1, e, isN], rfl, i⟩
theorem inp_agr {a b : Int} {h h' : Nat} {u v : Stands} (i : inp a b h u) (k : inp a b h' v) : agr u.2.1 v.2.1 = true ∧ agr u.2.2 v.2.2 = true := by
  obtain ⟨i1, i2⟩ := i
  obtain ⟨k1, k2⟩ := k
  constructor
  · rcases i1 with e | ⟨_, e⟩ <;> rcases k1 with f | ⟨_, f⟩ <;> rw [e, f] <;> simp [agr]
  · rcases i2 with e | ⟨_, e⟩ <;> rcases k2 with f | ⟨_, f⟩ <;> rw [e, f] <;> simp [agr]
theorem At.met {a b : Int} {r : Nat} {d e : PyData} {h : Nat} {i j : Int} (hh : h < 2) (k : At a b r d h j) (l : At a b r e (1 - h) i) (n : (i - j).natAbs = 1) : At a b (r + 1) (.tuple [d, e]) h (3 * j + 2 * (i - j)) := by
  obtain ⟨u, e1, rfl, i1⟩ := k
  obtain ⟨v, e2, rfl, i2⟩ := l
  obtain ⟨g1, g2⟩ := inp_agr i1 i2
  refine ⟨(3 * u.1 + 2 * (v.1 - u.1), fst2 u.2.1 v.2.1, fst2 u.2.2 v.2.2), ?_, rfl, ?_, ?_⟩
  · have en := stand_isN e2
    show stand1 _ _ _ = _
    rw [e1, e2]
    unfold stand1 metD
    rw [Option.bind_some, if_neg (by rw [en]; decide), Option.bind_some, if_pos ⟨n, g1, g2⟩]
  · rcases i1.1 with z | ⟨y, z⟩
    · left; show fst2 u.2.1 v.2.1 = _; rw [z]; rfl
    · rcases i2.1 with z2 | ⟨y2, z2⟩
      · left; show fst2 u.2.1 v.2.1 = _; rw [z, z2]; rfl
      · omega
  · rcases i1.2 with z | ⟨y, z⟩
    · left; show fst2 u.2.2 v.2.2 = _; rw [z]; rfl
    · rcases i2.2 with z2 | ⟨y2, z2⟩
      · left; show fst2 u.2.2 v.2.2 = _; rw [z, z2]; rfl
      · omega
/-! the mirror of the places -/
structure Pm where
  q : Nat → Nat → Int
  l : Nat → Nat
  n : Nat → Nat
def Pm.nxt (p : Pm) (h : Nat) : Int := if p.l h < p.n (1 - h) then 3 * p.q h (p.l h) + 2 * (p.q (1 - h) (p.l h) - p.q h (p.l h)) else 3 * p.q h (p.l h)
def Pm.step (p : Pm) (h : Nat) : Pm :=
  if p.l h < p.n h then { q := upf p.q h (upf (p.q h) (p.l h + 1) (p.nxt h)), l := upf p.l h (p.l h + 1), n := p.n }
  else { q := p.q, l := p.l, n := upf p.n h (p.n h + 1) }
def P0 : Pm := { q := fun h _ => if h = 0 then 0 else 1, l := fun _ => 0, n := fun _ => 0 }
def Pm.run (p : Pm) (hs : List Nat) : Pm := hs.foldl Pm.step p
theorem Pm.run_snoc (p : Pm) (hs : List Nat) (h : Nat) : p.run (hs ++ [h]) = (p.run hs).step h := by
  unfold Pm.run
  rw [List.foldl_append]
  rfl
structure Nb (p : Pm) : Prop where
  n1 : ∀ h < 2, p.n h = p.l h ∨ p.n h = p.l h + 1
  n3 : ∀ t, t ≤ p.l 0 → t ≤ p.l 1 → (p.q 1 t - p.q 0 t).natAbs = 1
  n4 : ∀ h < 2, ∀ t, t < p.l h → p.q h (t + 1) = 3 * p.q h t ∨ (t < p.n (1 - h) ∧ p.q h (t + 1) = p.q h t + 2 * p.q (1 - h) t)
  n5 : ∀ h < 2, ∀ t, t ≤ p.l h → p.q h t % 2 = (h : Int) ∧ 0 ≤ p.q h t ∧ p.q h t ≤ 3 ^ t
theorem Nb.zero : Nb P0 where
  n1 := fun h _ => .inl rfl
  n3 := fun t _ _ => rfl
  n4 := fun h _ t ht => absurd ht (Nat.not_lt_zero _)
  n5 := fun h hh t ht => by
    obtain rfl : t = 0 := Nat.le_zero.mp ht
    obtain rfl | rfl : h = 0 ∨ h = 1 := by omega
    · exact ⟨rfl, by decide, by decide⟩
    · exact ⟨rfl, by decide, by decide⟩
theorem Nb.near {p : Pm} (N : Nb p) {h : Nat} (hh : h < 2) {t : Nat} (h1 : t ≤ p.l h) (h2 : t ≤ p.l (1 - h)) : (p.q (1 - h) t - p.q h t).natAbs = 1 := by
  obtain rfl | rfl : h = 0 ∨ h = 1 := by omega
  · exact N.n3 t h1 h2
  · have := N.n3 t h2 h1
    show (p.q 0 t - p.q 1 t).natAbs = 1
    omega
theorem Nb.step {p : Pm} (N : Nb p) {h : Nat} (hh : h < 2) : Nb (p.step h) := by
  have ho : 1 - h < 2 := by omega
  have hne : 1 - h ≠ h := by omega
  have a1 := N.n1 h hh
  have a2 := N.n1 (1 - h) ho
  unfold Pm.step
  by_cases c : p.l h < p.n h
  · rw [if_pos c]
    have lh : upf p.l h (p.l h + 1) h = p.l h + 1 := upf_same
    have lo : ∀ i, i ≠ h → upf p.l h (p.l h + 1) i = p.l i := fun i e => upf_ne e
    have qo : ∀ i, i ≠ h → upf p.q h (upf (p.q h) (p.l h + 1) (p.nxt h)) i = p.q i := fun i e => upf_ne e
    have qh : upf p.q h (upf (p.q h) (p.l h + 1) (p.nxt h)) h = upf (p.q h) (p.l h + 1) (p.nxt h) := upf_same
    have qt : ∀ t, t ≠ p.l h + 1 → upf (p.q h) (p.l h + 1) (p.nxt h) t = p.q h t := fun t e => upf_ne e
    have qn : upf (p.q h) (p.l h + 1) (p.nxt h) (p.l h + 1) = p.nxt h := upf_same
    have near' : ∀ t, t ≤ p.l h + 1 → t ≤ p.l (1 - h) → (p.q (1 - h) t - upf (p.q h) (p.l h + 1) (p.nxt h) t).natAbs = 1 := fun t t1 t2 => by
      by_cases e : t = p.l h + 1
      · subst e
        rw [qn]
        unfold Pm.nxt
        rw [if_pos (by omega)]
        have nr := N.near hh (Nat.le_refl _) (show p.l h ≤ p.l (1 - h) by omega)
        have m4 := N.n4 (1 - h) ho (p.l h) (by omega)
        rw [show 1 - (1 - h) = h by omega] at m4
        rcases m4 with m4 | ⟨_, m4⟩
        · omega
        · omega
      · rw [qt t e]
        exact N.near hh (by omega) t2
    refine { n1 := fun i hi => ?_, n3 := fun t t0 t1 => ?_, n4 := fun i hi t ht => ?_, n5 := fun i hi t ht => ?_ }
    · show p.n i = upf p.l h (p.l h + 1) i ∨ p.n i = upf p.l h (p.l h + 1) i + 1
      by_cases e : i = h
      · subst e; rw [lh]; omega
      · rw [lo i e]; exact N.n1 i hi
    · show (upf p.q h (upf (p.q h) (p.l h + 1) (p.nxt h)) 1 t - upf p.q h (upf (p.q h) (p.l h + 1) (p.nxt h)) 0 t).natAbs = 1
      have t0' : t ≤ upf p.l h (p.l h + 1) 0 := t0
      have t1' : t ≤ upf p.l h (p.l h + 1) 1 := t1
      obtain rfl | rfl : h = 0 ∨ h = 1 := by omega
      · rw [lh] at t0'
        rw [lo 1 (by decide)] at t1'
        rw [qh, qo 1 (by decide)]
        exact near' t t0' t1'
      · rw [lh] at t1'
        rw [lo 0 (by decide)] at t0'
        rw [qh, qo 0 (by decide)]
        have := near' t t1' t0'
        show (upf (p.q 1) (p.l 1 + 1) (p.nxt 1) t - p.q 0 t).natAbs = 1
        have z : (p.q 0 t - upf (p.q 1) (p.l 1 + 1) (p.nxt 1) t).natAbs = 1 := this
        omega
    · have ht' : t < upf p.l h (p.l h + 1) i := ht
      show upf p.q h (upf (p.q h) (p.l h + 1) (p.nxt h)) i (t + 1) = 3 * upf p.q h (upf (p.q h) (p.l h + 1) (p.nxt h)) i t ∨ (t < p.n (1 - i) ∧ upf p.q h (upf (p.q h) (p.l h + 1) (p.nxt h)) i (t + 1) = upf p.q h (upf (p.q h) (p.l h + 1) (p.nxt h)) i t + 2 * upf p.q h (upf (p.q h) (p.l h + 1) (p.nxt h)) (1 - i) t)
      by_cases e : i = h
      · subst e
        rw [lh] at ht'
        rw [qh, qo (1 - i) hne, qt t (by omega)]
        by_cases et : t = p.l i
        · subst et
          rw [qn]
          unfold Pm.nxt
          by_cases c2 : p.l i < p.n (1 - i)
          · rw [if_pos c2]; right; exact ⟨c2, by omega⟩
          · rw [if_neg c2]; left; rfl
        · rw [qt (t + 1) (by omega)]
          exact N.n4 i hi t (by omega)
      · rw [lo i e] at ht'
        have e1 : 1 - i = h := by omega
        rw [qo i e, e1, qh]
        have m4 := N.n4 i hi t ht'
        rw [e1] at m4
        rcases m4 with m4 | ⟨m5, m4⟩
        · exact .inl m4
        · right
          refine ⟨m5, ?_⟩
          rw [qt t (by omega)]
          exact m4
    · have ht' : t ≤ upf p.l h (p.l h + 1) i := ht
      show upf p.q h (upf (p.q h) (p.l h + 1) (p.nxt h)) i t % 2 = (i : Int) ∧ 0 ≤ upf p.q h (upf (p.q h) (p.l h + 1) (p.nxt h)) i t ∧ upf p.q h (upf (p.q h) (p.l h + 1) (p.nxt h)) i t ≤ 3 ^ t
      by_cases e : i = h
      · subst e
        rw [lh] at ht'
        rw [qh]
        by_cases et : t = p.l i + 1
        · subst et
          rw [qn]
          obtain ⟨b1, b2, b3⟩ := N.n5 i hi (p.l i) (Nat.le_refl _)
          have p3 : (3 : Int) ^ (p.l i + 1) = 3 * 3 ^ p.l i := by rw [Int.pow_succ]; omega
          unfold Pm.nxt
          by_cases c2 : p.l i < p.n (1 - i)
          · rw [if_pos c2]
            obtain ⟨d1, d2, d3⟩ := N.n5 (1 - i) ho (p.l i) (by omega)
            refine ⟨by omega, by omega, by omega⟩
          · rw [if_neg c2]
            refine ⟨by omega, by omega, by omega⟩
        · rw [qt t et]
          exact N.n5 i hi t (by omega)
      · rw [lo i e] at ht'
        rw [qo i e]
        exact N.n5 i hi t ht'
  · rw [if_neg c]
    refine { n1 := fun i hi => ?_, n3 := N.n3, n4 := fun i hi t ht => ?_, n5 := N.n5 }
    · show upf p.n h (p.n h + 1) i = p.l i ∨ upf p.n h (p.n h + 1) i = p.l i + 1
      by_cases e : i = h
      · subst e; rw [upf_same]; omega
      · rw [upf_ne e]; exact N.n1 i hi
    · show p.q i (t + 1) = 3 * p.q i t ∨ (t < upf p.n h (p.n h + 1) (1 - i) ∧ p.q i (t + 1) = p.q i t + 2 * p.q (1 - i) t)
      rcases N.n4 i hi t ht with m | ⟨m1, m2⟩
      · exact .inl m
      · right
        refine ⟨?_, m2⟩
        by_cases e : 1 - i = h
        · rw [e] at m1 ⊢; rw [upf_same]; omega
        · rw [upf_ne e]; exact m1
/-- what is known and where it stands -/
structure Rel (a b : Int) (m : M) (p : Pm) : Prop where
  l : ∀ h < 2, m.l h = p.l h
  n : ∀ h < 2, (m.c h).length = p.n h
  c : ∀ h < 2, ∀ t, t < p.n h → At a b t ((m.c h).getD t .none) h (p.q h t)
  k : ∀ h < 2, At a b (p.l h) (m.k h) h (p.q h (p.l h))
theorem Rel.zero {a b : Int} (ha : 0 ≤ a) (hb : 0 ≤ b) : Rel a b (M0 a b) P0 where
  l := fun h _ => rfl
  n := fun h _ => rfl
  c := fun h _ t ht => absurd ht (Nat.not_lt_zero _)
  k := fun h hh => At.int ha hb hh
theorem Rel.step {a b : Int} {m : M} {p : Pm} (R : Rel a b m p) (N : Nb p) {h : Nat} (hh : h < 2) : Rel a b (m.step h) (p.step h) := by
  have ho : 1 - h < 2 := by omega
  have hne : 1 - h ≠ h := by omega
  have a1 := N.n1 h hh
  have a2 := N.n1 (1 - h) ho
  have rl := R.l h hh
  have rn := R.n h hh
  have rno := R.n (1 - h) ho
  unfold Pm.step M.step
  by_cases c : p.l h < p.n h
  · rw [if_pos c, if_pos (show m.l h < (m.c h).length by omega)]
    have qo : ∀ i, i ≠ h → upf p.q h (upf (p.q h) (p.l h + 1) (p.nxt h)) i = p.q i := fun i e => upf_ne e
    have qh : upf p.q h (upf (p.q h) (p.l h + 1) (p.nxt h)) h = upf (p.q h) (p.l h + 1) (p.nxt h) := upf_same
    have qt : ∀ t, t ≠ p.l h + 1 → upf (p.q h) (p.l h + 1) (p.nxt h) t = p.q h t := fun t e => upf_ne e
    have qn : upf (p.q h) (p.l h + 1) (p.nxt h) (p.l h + 1) = p.nxt h := upf_same
    refine { l := fun i hi => ?_, n := R.n, c := fun i hi t ht => ?_, k := fun i hi => ?_ }
    · show upf m.l h (m.l h + 1) i = upf p.l h (p.l h + 1) i
      by_cases e : i = h
      · subst e; rw [upf_same, upf_same]; omega
      · rw [upf_ne e, upf_ne e]; exact R.l i hi
    · show At a b t ((m.c i).getD t .none) i (upf p.q h (upf (p.q h) (p.l h + 1) (p.nxt h)) i t)
      have old := R.c i hi t ht
      by_cases e : i = h
      · subst e
        have ht' : t < p.n i := ht
        rw [qh, qt t (by omega)]
        exact old
      · rw [qo i e]; exact old
    · show At a b (upf p.l h (p.l h + 1) i) (upf m.k h _ i) i (upf p.q h (upf (p.q h) (p.l h + 1) (p.nxt h)) i (upf p.l h (p.l h + 1) i))
      by_cases e : i = h
      · subst e
        rw [upf_same, upf_same, qh, qn, rl]
        unfold Pm.nxt
        have mine := R.k i hi
        by_cases c2 : p.l i < p.n (1 - i)
        · rw [if_pos c2]
          exact At.met hi mine (R.c (1 - i) ho (p.l i) c2) (N.near hi (Nat.le_refl _) (by omega))
        · rw [if_neg c2, List.getD_eq_getElem?_getD, List.getElem?_eq_none (by omega)]
          exact mine.alone
      · rw [upf_ne e, upf_ne e, qo i e]
        exact R.k i hi
  · rw [if_neg c, if_neg (show ¬ m.l h < (m.c h).length by omega)]
    refine { l := R.l, n := fun i hi => ?_, c := fun i hi t ht => ?_, k := R.k }
    · show (upf m.c h (m.c h ++ [m.k h]) i).length = upf p.n h (p.n h + 1) i
      by_cases e : i = h
      · subst e; rw [upf_same, upf_same, List.length_append, rn]; rfl
      · rw [upf_ne e, upf_ne e]; exact R.n i hi
    · show At a b t ((upf m.c h (m.c h ++ [m.k h]) i).getD t .none) i (p.q i t)
      have ht' : t < upf p.n h (p.n h + 1) i := ht
      by_cases e : i = h
      · subst e
        rw [upf_same] at ht' ⊢
        by_cases et : t < p.n i
        · rw [List.getD_eq_getElem?_getD, List.getElem?_append_left (by omega), ← List.getD_eq_getElem?_getD]
          exact R.c i hi t et
        · have eq1 : t = p.l i := by omega
          rw [List.getD_eq_getElem?_getD, List.getElem?_append_right (by omega), rn, show t - p.n i = 0 by omega]
          rw [eq1]
          exact R.k i hi
      · rw [upf_ne e] at ht' ⊢
        exact R.c i hi t ht'
theorem run_both {a b : Int} (ha : 0 ≤ a) (hb : 0 ≤ b) : ∀ {hs : List Nat} {m : M} {p : Pm}, (∀ h ∈ hs, h < 2) → Rel a b m p → Nb p → Rel a b (m.run hs) (p.run hs) ∧ Nb (p.run hs)
  | [], m, p, _, R, N => ⟨R, N⟩
  | h :: r, m, p, q, R, N => run_both ha hb (hs := r) (m := m.step h) (p := p.step h) (fun x hx => q x (List.mem_cons_of_mem _ hx)) (R.step N (q h List.mem_cons_self)) (N.step (q h List.mem_cons_self))
def Pm.done (p : Pm) (h : Nat) : Nat := p.l h + p.n h
end TA

set_option Elab.async false
set_option maxRecDepth 100000
set_option maxHeartbeats 4000000
namespace TA
open PySem L2 PyProof.Rows
set_option linter.unusedVariables false
/-! rows: lists of ints at addresses rs, all of them new behind H0 -/
inductive RowsOf (H0 H : Hp) : List Addr → List (List Int) → Prop
  | nil : RowsOf H0 H [] []
  | cons {r : Addr} {rs : List Addr} {xs : List Int} {xss : List (List Int)} : H0 r = none → H r = some (.lst (xs.map V.int)) → RowsOf H0 H rs xss → RowsOf H0 H (r :: rs) (xs :: xss)
theorem RowsOf.mono {H0 H H' : Hp} (s : Same H H') : ∀ {rs xss}, RowsOf H0 H rs xss → RowsOf H0 H' rs xss
  | _, _, .nil => .nil
  | _, _, .cons a b c => .cons a (s _ _ b) (c.mono s)
theorem RowsOf.back {H00 H0 H : Hp} (s : Same H00 H0) : ∀ {rs xss}, RowsOf H0 H rs xss → RowsOf H00 H rs xss
  | _, _, .nil => .nil
  | _, _, .cons a b c => .cons (s.free a) b (c.back s)
theorem RowsOf.updD {H0 H : Hp} {D : Addr} {o u : HO} (hD : H0 D = some u) : ∀ {rs xss}, RowsOf H0 H rs xss → RowsOf H0 (upd H D o) rs xss
  | _, _, .nil => .nil
  | _, _, .cons a b c => .cons a (by rw [upd_ne (ne_of_none hD a).symm]; exact b) (c.updD hD)
theorem RowsOf.app {H0 H : Hp} {ss yss} (h2 : RowsOf H0 H ss yss) : ∀ {rs xss}, RowsOf H0 H rs xss → RowsOf H0 H (rs ++ ss) (xss ++ yss)
  | _, _, .nil => h2
  | _, _, .cons a b c => .cons a b (h2.app c)
theorem RowsOf.snoc {H0 H : Hp} {rs xss} {r : Addr} {xs : List Int} (h : RowsOf H0 H rs xss) (a : H0 r = none) (b : H r = some (.lst (xs.map V.int))) : RowsOf H0 H (rs ++ [r]) (xss ++ [xs]) := RowsOf.app (.cons a b .nil) h
theorem RowsOf.len {H0 H : Hp} : ∀ {rs xss}, RowsOf H0 H rs xss → rs.length = xss.length
  | _, _, .nil => rfl
  | _, _, .cons _ _ c => congrArg (· + 1) c.len
theorem RowsOf.get {H0 H : Hp} : ∀ {rs xss} {i : Nat} {v : V}, RowsOf H0 H rs xss → (rs.map V.ref)[i]? = some v → ∃ r xs, v = .ref r ∧ xss[i]? = some xs ∧ H0 r = none ∧ H r = some (.lst (xs.map V.int))
  | _, _, i, _, .nil, e => by simp at e
  | _, _, 0, _, .cons (r := r) (xs := xs) a b c, e => ⟨r, xs, by simpa using e.symm, by simp, a, b⟩
  | _, _, i + 1, v, .cons a b c, e => by
    obtain ⟨r, xs, h1, h2, h3, h4⟩ := RowsOf.get (i := i) (v := v) c (by simpa using e)
    exact ⟨r, xs, h1, by simpa using h2, h3, h4⟩
def toD (xss : List (List Int)) : PyData := .list (xss.map fun xs => .list (xs.map PyData.int))
theorem ints_dp {K : PySem.W.Frag} {H : Hp} : ∀ xs : List Int, DpAll K H (xs.map V.int) (xs.map PyData.int)
  | [] => .nil
  | x :: r => .cons (.int x) (ints_dp r)
theorem RowsOf.dp {K : PySem.W.Frag} {H0 H : Hp} : ∀ {rs xss}, RowsOf H0 H rs xss → DpAll K H (rs.map V.ref) (xss.map fun xs => .list (xs.map PyData.int))
  | _, _, .nil => .nil
  | _, _, .cons _ b c => .cons (.lst (SqL.of b) (ints_dp _)) c.dp

def kids (s : Nat) (b : List Int) : List (List Int) := ([0, 1].filter fun h => decide (b.count h < s)).map fun h => b ++ [h]
def grow (s : Nat) (ws : List (List Int)) : List (List Int) := ws.flatMap (kids s)
def lvl (s : Nat) : Nat → List (List Int)
  | 0 => [[]]
  | k + 1 => grow s (lvl s k)
def lvlOk (s k : Nat) : Bool := match lvl s k with
  | [] => false
  | b :: r => b.length == k && decide (r.length < 1000)
theorem lvl_ok : ∀ d < 4, ∀ k < 4 * d + 1, lvlOk (2 * d) k = true := by decide +kernel
theorem lvl_many : ∀ d < 4, ([1, 6, 70, 924] : List Int)[d]? = some ((lvl (2 * d) (4 * d)).length : Int) := by decide +kernel
theorem lvl_head {d k : Nat} (hd : d < 4) (hk : k < 4 * d + 1) : ∃ b r, lvl (2 * d) k = b :: r ∧ b.length = k ∧ r.length < 1000 := by
  have h := lvl_ok d hd k hk
  unfold lvlOk at h
  split at h
  · cases h
  · rename_i b r e
    rw [Bool.and_eq_true] at h
    exact ⟨b, r, e, by simpa using h.1, of_decide_eq_true h.2⟩
theorem kids_len (s : Nat) (b : List Int) : (kids s b).length ≤ 2 := by
  unfold kids
  rw [List.length_map]
  exact List.length_filter_le _ _
theorem grow_len (s : Nat) : ∀ ws, (grow s ws).length ≤ 2 * ws.length
  | [] => Nat.le_refl _
  | b :: r => by
    have h1 := kids_len s b
    have h2 := grow_len s r
    have e : grow s (b :: r) = kids s b ++ grow s r := rfl
    rw [e, List.length_append, List.length_cons]
    omega
theorem grow_take {s : Nat} {ws : List (List Int)} {i : Nat} {b : List Int} (h : ws[i]? = some b) : grow s (ws.take (i + 1)) = grow s (ws.take i) ++ kids s b := by
  rw [List.take_add_one, h]
  unfold grow
  rw [List.flatMap_append]
  simp
structure Txt2W (K : PySem.W.Frag) (mg : Str → Option Value) : Prop where
  two : ∃ t, mg "STEPS" = some (.int 2 t)
  three : ∃ t, mg "MOST_WOVEN" = some (.int 3 t)
  hands : ∃ hA, mg "HANDS" = some (.ref hA) ∧ ∀ H, SqT K H hA [.int 0, .int 1]
def spWeav (K : PySem.W.Frag) : Sp := fun vs H Q _ => ∃ (d : Nat), vs = [.int (d : Int)] ∧ d < 4 ∧
  ∀ (p : Addr) (rs : List Addr) (H' : Hp), Same H H' → H p = none → H' p = some (.lst (rs.map V.ref)) → RowsOf H H' rs (lvl (2 * d) (4 * d)) → Q (.ref p) H'
def kidsTo (s : Nat) (b : List Int) (j : Nat) : List (List Int) := ((([0, 1] : List Int).take j).filter fun h => decide (b.count h < s)).map fun h => b ++ [h]
theorem kidsTo_len (s : Nat) (b : List Int) (j : Nat) : (kidsTo s b j).length ≤ 2 := by
  unfold kidsTo
  rw [List.length_map]
  refine Nat.le_trans (List.length_filter_le _ _) ?_
  rw [List.length_take]
  exact Nat.min_le_right _ _
theorem kidsTo_yes {s : Nat} {b : List Int} {j : Nat} {h : Int} (e : ([0, 1] : List Int)[j]? = some h) (c : b.count h < s) : kidsTo s b (j + 1) = kidsTo s b j ++ [b ++ [h]] := by
  unfold kidsTo
  rw [List.take_add_one, e, List.filter_append, List.map_append]
  simp [c]
theorem kidsTo_no {s : Nat} {b : List Int} {j : Nat} {h : Int} (e : ([0, 1] : List Int)[j]? = some h) (c : ¬ b.count h < s) : kidsTo s b (j + 1) = kidsTo s b j := by
  unfold kidsTo
  rw [List.take_add_one, e, List.filter_append, List.map_append]
  simp [c]
theorem lvl_row (s : Nat) : ∀ k, ∀ b ∈ lvl s k, b.length = k
  | 0 => fun b h => by
    have e : b = [] := by simpa [lvl] using h
    rw [e]
    rfl
  | k + 1 => fun b h => by
    obtain ⟨c, hc, hb⟩ := List.mem_flatMap.mp (show b ∈ (lvl s k).flatMap (kids s) from h)
    unfold kids at hb
    obtain ⟨x, _, rfl⟩ := List.mem_map.mp hb
    rw [List.length_append, lvl_row s k c hc]
    rfl
section
variable {P : Program} {w : World} {K : PySem.W.Frag} {mg : Str → Option Value} {base : Heap}
abbrev nWeav : List Str := ["rounds", "steps", "woven", "begun", "hand"]
theorem scWeav : FnScope nWeav ["rounds"] (defScope sWeav) := ⟨rfl, rfl, rfl, by decide +kernel, rfl, by decide +kernel, by decide +kernel⟩
theorem ok_weav {f g : Addr} {fd gd : FuncData} (F : Fun K "weavings" "weavings" sWeav f fd) (T : Txt K mg) (U : Txt2W K mg) (G : FnOk P w K mg base CX0 2 g gd ["thing", "least", "most"] spWithin) (bG : Binds K gd ["thing", "least", "most"] []) (kG : PySem.W.keepIn K (.ref g) = true) (mG : mg "is_whole_within" = some (.ref g)) :
    FnOk P w K mg base CX0 3 f fd ["rounds"] (spWeav K) := by
  refine F.ok scWeav (fun vs H Q E h => ?_) (fun cdv A outer s H vs Q E hr h => ?_)
  · obtain ⟨d, rfl, _⟩ := h
    rfl
  obtain ⟨d, rfl, hd, q⟩ := h
  obtain ⟨t2, m2⟩ := U.two
  obtain ⟨t3, m3⟩ := U.three
  obtain ⟨hA, mH, hH⟩ := U.hands
  have nd := scWeav.nd
  refine ⟨_, pss_cons (ps_if (pt_not (pt_val (pe_call G hr rfl mG kG bG .nil pass0 (pa_cons (pv 0) (pa_cons pe_int (pa_cons (pe_glob (v := .int 3) rfl m3 ⟨_, rfl⟩) pa_nil)))))) pss_never pss_nil)
    (pss_cons (ps_set (i := 1) nd rfl (Or.inr rfl) (pe_op op_mul (pe_glob (v := .int 2) rfl m2 ⟨_, rfl⟩) (pv 0)))
    (pss_cons (ps_set (i := 2) nd rfl (Or.inl rfl) (pe_lst (pa_cons (pe_lst pa_nil) pa_nil)))
    (pss_cons (ps_while PassesOwn.never (pt_cmpR op_lt (pe_callB call_len_seq (by rfl) T.len PySem.boot_len (pa_cons (pe_ix ix_list (pv 2) pe_int (fun _ _ => rfl)) pa_nil)) (pe_op op_mul (pv 1) (pe_callB call_len_seq (by rfl) T.len PySem.boot_len (pa_cons (pe_glob (v := .ref hA) rfl mH rfl) pa_nil))) (nomark _))
        (pss_one (ps_setLc2 (i := 2) (own := [("begun", 3), ("hand", 4)]) (vs1 := [4]) (wi1 := iTup K (tC (.ref hA))) (tt1 := tTest (tOp (rI0 fun i j => .bl (decide (i < j))) (tBM K "list" (rCntI K) (tVar 3) (tCons (tVar 4) tNil)) (tVar 1))) rfl nd rfl rfl (sw_true rfl rfl rfl (by decide +kernel)) (pi_list (pv 2)) (blkOk_by (N := nWeav) (sc := defScope sWeav) (by decide +kernel)) (by decide)
          (fun _ _ _ _ _ => pg_name (i := 3) nd rfl (Or.inl rfl)) (fun _ _ _ _ _ => pts_nil) (fun _ _ _ _ _ => (by refine pi_tup ?_; exact pe_glob (v := .ref hA) rfl mH rfl)) (fun _ _ _ _ _ => pg_name (i := 4) nd rfl (Or.inl rfl))
          (fun _ _ _ _ _ => (by refine pts_one ?_; refine pt_cmpR op_lt ?_ (pv 1) (nomark _); exact pe_bm PySem.F.plainAttrs_list PySem.F.slot_list_count PySem.F.type_list_count mt_lcount (pv 3) (pa_cons (pv 4) pa_nil)))
          (fun _ _ _ _ _ => pe_op op_cat (pv 3) (pe_lst (pa_cons (pv 4) pa_nil))))))
    (pss_one (ps_ret (pv 2)))))), ?_⟩
  refine ⟨_, rfl, (d : Int), 0, 3, rfl, ?_⟩
  have e3 : decide ((0 : Int) ≤ (d : Int) ∧ (d : Int) ≤ 3) = true := decide_eq_true (by omega)
  refine ⟨true, congrArg V.bl e3, ?_⟩
  refine iteF ?_
  refine ⟨_, rfl, _, _, rfl, rfl, .inl ⟨by decide, by decide⟩, ?_⟩
  refine ⟨Nat.zero_le _, fun p0 h0 => ⟨(by show 1 ≤ sizeLine; decide), fun p hp => ?_⟩⟩
  refine ⟨fun m σ Hc => ∃ (k : Nat) (p : Addr) (rs : List Addr), m = 4 * d - k ∧ k ≤ 4 * d ∧ σ = [some (.int (d : Int)), some (.int (2 * (d : Int))), some (.ref p), none, none] ∧ Same H Hc ∧ H p = none ∧ Hc p = some (.lst (rs.map V.ref)) ∧ RowsOf H Hc rs (lvl (2 * d) k), ⟨4 * d, 0, p, [p0], rfl, Nat.zero_le _, rfl, ?_⟩, ?_⟩
  · have s0 := same_new h0 (.lst [])
    exact ⟨s0.trans (same_new hp _), s0.free hp, upd_same, .cons h0 (by rw [upd_ne (ne_of_none upd_same hp), upd_same]; rfl) .nil⟩
  rintro m σ Hc ⟨k, p, rs, rfl, hk, rfl, sc, hp0, hL, hR⟩
  obtain ⟨b0, rr, e0, hb0, hrr⟩ := lvl_head hd (k := k) (by omega)
  obtain ⟨r0, rs', rfl, hr0⟩ : ∃ r0 rs', rs = r0 :: rs' ∧ Hc r0 = some (.lst (b0.map V.int)) := by
    rw [e0] at hR
    cases hR with
    | cons _ h2 _ => exact ⟨_, _, rfl, h2⟩
  refine ⟨_, rfl, p, _, _, .ref r0, rfl, rfl, SqL.of hL, (by show atI _ ((0 : Nat) : Int) = _; exact atI_nat rfl), r0, _, rfl, .inl (SqL.of hr0), _, rfl, hA, _, rfl, .inr (hH _), _, _, rfl, rfl, .inr ⟨by decide, by decide⟩, _, _, rfl, rfl, _, rfl, ?_⟩
  refine ite2 (fun c => ?_) (fun c => ?_)
  · have c' : (((b0.map V.int).length : Nat) : Int) < 2 * (d : Int) * 2 := of_decide_eq_true c
    rw [List.length_map, hb0] at c'
    refine ⟨fun σ H' => ∃ (p : Addr) (rs : List Addr), σ = [some (.int (d : Int)), some (.int (2 * (d : Int))), some (.ref p), none, none] ∧ Same H H' ∧ H p = none ∧ H' p = some (.lst (rs.map V.ref)) ∧ RowsOf H H' rs (lvl (2 * d) (k + 1)),
      fun σ' H' ⟨p', rs2, h1, h2, h3, h4, h5⟩ => ⟨4 * d - (k + 1), by omega, k + 1, p', rs2, rfl, by omega, h1, h2, h3, h4, h5⟩, ?_⟩
    refine ⟨_, rfl, p, rfl, ⟨_, SqL.of hL⟩, fun D hD => ?_⟩
    have hwl : (lvl (2 * d) k).length ≤ 1000 := by rw [e0, List.length_cons]; omega
    refine list_turns (xs := (r0 :: rs').map V.ref) (fun i H2 => Same Hc H2 ∧ ∃ acc : List Addr, H2 D = some (.lst (acc.map V.ref)) ∧ RowsOf (upd Hc D (.lst [])) H2 acc (grow (2 * d) ((lvl (2 * d) k).take i))) ?_ ?_ ?_ ?_
    · exact ⟨same_new hD _, [], upd_same, .nil⟩
    · rintro i H2 _ ⟨s, _⟩
      exact SqL.of (s _ _ hL)
    · rintro i x H2 hx ⟨s, acc, hacc, hacR⟩
      obtain ⟨r, b, rfl, hb, _, hr1⟩ := hR.get hx
      refine ⟨rfl, hA, rfl, ⟨_, hH _⟩, ?_⟩
      refine tup_turns (xs := [V.int 0, V.int 1]) (fun j H3 => Same Hc H3 ∧ ∃ acc : List Addr, H3 D = some (.lst (acc.map V.ref)) ∧ RowsOf (upd Hc D (.lst [])) H3 acc (grow (2 * d) ((lvl (2 * d) k).take i) ++ kidsTo (2 * d) b j)) ?_ ?_ ?_ ?_
      · exact ⟨s, acc, hacc, by rw [show kidsTo (2 * d) b 0 = [] from rfl, List.append_nil]; exact hacR⟩
      · intro j H3 _ _
        exact hH _
      · rintro j y H3 hy ⟨s3, acc3, hacc3, hR3⟩
        obtain ⟨h, rfl, hh⟩ : ∃ h : Int, y = .int h ∧ ([0, 1] : List Int)[j]? = some h := by
          rcases j with _ | _ | j
          · exact ⟨0, by simpa using hy.symm, rfl⟩
          · exact ⟨1, by simpa using hy.symm, rfl⟩
          · simp at hy
        have hr3 := s3 _ _ hr1
        have hbl := lvl_row _ _ b (List.mem_of_getElem? hb)
        have hil : i < (lvl (2 * d) k).length := (List.getElem?_eq_some_iff.mp hb).1
        have hal : acc3.length ≤ 3000 := by
          have h1 := hR3.len
          have h2 := grow_len (2 * d) ((lvl (2 * d) k).take i)
          have h3 := kidsTo_len (2 * d) b j
          rw [List.length_append] at h1
          rw [List.length_take] at h2
          omega
        refine ⟨rfl, _, rfl, .inl ⟨rfl, _, SqL.of hr3⟩, _, rfl, r, b, h, rfl, rfl, SqL.of hr3, _, rfl, _, _, rfl, rfl, _, rfl, ?_⟩
        refine ite2 (fun c2 => ?_) (fun c2 => ?_)
        · have c3 : ((b.count h : Nat) : Int) < 2 * (d : Int) := of_decide_eq_true c2
          refine ⟨_, rfl, _, rfl, (by show 1 ≤ sizeLine; decide), fun q1 h1 => ?_⟩
          have t1 := same_new h1 (.lst [.int h])
          refine ⟨r, q1, _, _, rfl, rfl, t1 _ _ hr3, upd_same, (by rw [List.length_map]; exact small13 (by show b.length + 1 ≤ _; omega)), fun q2 h2 => ?_⟩
          have t2 := t1.trans (same_new h2 (.lst (b.map V.int ++ [V.int h])))
          have n2 : D ≠ q2 := ne_of_none (t1 _ _ hacc3) h2
          refine ⟨_, t2 _ _ hacc3, (by rw [List.length_map]; exact Nat.lt_of_le_of_lt hal (by decide)), fun b' o e => ?_, acc3 ++ [q2], ?_, ?_⟩
          · rw [upd_ne (ne_of_none e hD)]
            exact t2 _ _ (s3 _ _ e)
          · rw [upd_same, List.map_append]
            all_goals rfl
          · rw [kidsTo_yes hh (by omega), ← List.append_assoc]
            refine RowsOf.snoc ((hR3.mono t2).updD upd_same) ?_ ?_
            · rw [upd_ne n2.symm]
              exact s3.free (t1.free h2)
            · rw [upd_ne n2.symm, upd_same, List.map_append]
              all_goals rfl
        · have c3 : ¬ ((b.count h : Nat) : Int) < 2 * (d : Int) := of_decide_eq_false (Bool.eq_false_iff.mpr c2)
          exact ⟨s3, acc3, hacc3, by rw [kidsTo_no hh (by omega)]; exact hR3⟩
      · rintro H3 ⟨s3, acc3, hacc3, hR3⟩
        refine ⟨s3, acc3, hacc3, ?_⟩
        rw [grow_take hb]
        exact hR3
    · rintro H2 ⟨s, acc, hacc, hacR⟩
      rw [List.length_map, hR.len, List.take_length] at hacR
      exact ⟨D, acc, rfl, sc.trans s, sc.free hD, hacc, hacR.back (sc.trans (same_new hD _))⟩
  · have c' : ¬ (((b0.map V.int).length : Nat) : Int) < 2 * (d : Int) * 2 := of_decide_eq_false (Bool.eq_false_iff.mpr c)
    rw [List.length_map, hb0] at c'
    have ek : k = 4 * d := by omega
    subst ek
    exact ⟨_, rfl, q p _ _ sc hp0 hL hR⟩
end
end TA

set_option Elab.async false
set_option maxRecDepth 100000
set_option maxHeartbeats 4000000
namespace TA
open PySem L2 PyProof.Rows
set_option linter.unusedVariables false
structure RaiseC (K : PySem.W.Frag) (mg : Str → Option Value) (n : Str) (C : Addr) : Prop where
  m : mg n = some (.ref C)
  x : PySem.W.excIn K C [.type "ValueError", .type "Exception", .type "BaseException", .type "object"] "ValueError.__new__" = true
  k : PySem.W.keepIn K (.ref C) = true
  b : PySem.W.subIn K (.ref C) (.type "BaseException") = some true
  t : PySem.W.typeIn K (.ref C) = some (.type "type")
def ov : Option Int → V
  | none => .non
  | some i => .int i
def stV (u : Stands) : List V := [.int u.1, ov u.2.1, ov u.2.2]
def spAgr : Sp := fun vs H Q _ => ∃ a b : Option Int, vs = [ov a, ov b] ∧ Q (.bl (agr a b)) H
def spMet : Sp := fun vs H Q _ => ∃ (p q : Addr) (u v : Stands), vs = [.ref p, .ref q] ∧ H p = some (.tup (stV u)) ∧ H q = some (.tup (stV v)) ∧ (metD u v = none → Q .non H) ∧ ∀ w, metD u v = some w → ∀ (o : Addr) (H' : Hp), Same H H' → H' o = some (.tup (stV w)) → Q (.ref o) H'
/-! things of any kind, by their data -/
def tyN : PyData → String
  | .none => "NoneType"
  | .bool _ => "bool"
  | .int _ => "int"
  | .str _ => "str"
  | .list _ => "list"
  | .tuple _ => "tuple"
  | .dict _ => "dict"
theorem sqT_ty {K : PySem.W.Frag} {H : Hp} {a : Addr} {xs : List V} (h : SqT K H a xs) : TyX K H (.ref a) (.type "tuple") := by
  rcases h with h | ⟨o, its, n, h1, h2, _⟩
  · rcases h with h | ⟨o, h⟩
    · exact .base (.tup h)
    · exact .fTuple h
  · exact .kTuple h1 h2
theorem sqL_ty {K : PySem.W.Frag} {H : Hp} {a : Addr} {xs : List V} (h : SqL K H a xs) : TyX K H (.ref a) (.type "list") := by
  rcases h with h | ⟨o, its, n, h1, h2, _⟩
  · rcases h with h | ⟨o, h⟩
    · exact .base (.lst h)
    · exact .base (.frz h)
  · exact .kList h1 h2
theorem dp_ty {K : PySem.W.Frag} {H : Hp} {v : V} {d : PyData} (h : Dp K H v d) : TyX K H v (.type (tyN d)) := by
  cases h with
  | non => exact .base .non
  | bl b => exact .base (.bl b)
  | int i => exact .base (.int i)
  | str x => exact .base (.str x)
  | lst h _ => exact sqL_ty h
  | tup h _ => exact sqT_ty h
theorem dp_non {K : PySem.W.Frag} {H : Hp} {v : V} {d : PyData} (h : Dp K H v d) : decide (v = .non) = isN d := by
  cases h <;> rfl
def isWholeD : PyData → Bool
  | .int _ => true
  | _ => false
def isTupD : PyData → Bool
  | .tuple _ => true
  | _ => false
def within : PyData → Int → Int → Bool
  | .int n, lo, hi => decide (lo ≤ n ∧ n ≤ hi)
  | _, _, _ => false
theorem kit_int (d : PyData) {K : PySem.W.Frag} : ∃ b1 b2, PySem.W.kitOne K (.type (tyN d)) (.type "int") = some b1 ∧ PySem.W.kitOne K (.type (tyN d)) (.type "bool") = some b2 ∧ isWholeD d = (b1 && !b2) := by
  cases d with
  | none => exact ⟨false, false, kit_ty (a := "NoneType") (b := "int") (by decide +kernel), kit_ty (a := "NoneType") (b := "bool") (by decide +kernel), rfl⟩
  | bool b => exact ⟨true, true, kit_ty (a := "bool") (b := "int") (by decide +kernel), kit_ty (a := "bool") (b := "bool") (by decide +kernel), rfl⟩
  | int i => exact ⟨true, false, kit_ty (a := "int") (b := "int") (by decide +kernel), kit_ty (a := "int") (b := "bool") (by decide +kernel), rfl⟩
  | str s => exact ⟨false, false, kit_ty (a := "str") (b := "int") (by decide +kernel), kit_ty (a := "str") (b := "bool") (by decide +kernel), rfl⟩
  | list l => exact ⟨false, false, kit_ty (a := "list") (b := "int") (by decide +kernel), kit_ty (a := "list") (b := "bool") (by decide +kernel), rfl⟩
  | tuple l => exact ⟨false, false, kit_ty (a := "tuple") (b := "int") (by decide +kernel), kit_ty (a := "tuple") (b := "bool") (by decide +kernel), rfl⟩
  | dict l => exact ⟨false, false, kit_ty (a := "dict") (b := "int") (by decide +kernel), kit_ty (a := "dict") (b := "bool") (by decide +kernel), rfl⟩
theorem kit_tup (d : PyData) {K : PySem.W.Frag} : PySem.W.kitOne K (.type (tyN d)) (.type "tuple") = some (isTupD d) := by
  cases d with
  | none => exact (show PySem.W.kitOne K (.type "NoneType") (.type "tuple") = some false from kit_ty (a := "NoneType") (b := "tuple") (by decide +kernel))
  | bool b => exact (show PySem.W.kitOne K (.type "bool") (.type "tuple") = some false from kit_ty (a := "bool") (b := "tuple") (by decide +kernel))
  | int i => exact (show PySem.W.kitOne K (.type "int") (.type "tuple") = some false from kit_ty (a := "int") (b := "tuple") (by decide +kernel))
  | str s => exact (show PySem.W.kitOne K (.type "str") (.type "tuple") = some false from kit_ty (a := "str") (b := "tuple") (by decide +kernel))
  | list l => exact (show PySem.W.kitOne K (.type "list") (.type "tuple") = some false from kit_ty (a := "list") (b := "tuple") (by decide +kernel))
  | tuple l => exact (show PySem.W.kitOne K (.type "tuple") (.type "tuple") = some true from kit_ty (a := "tuple") (b := "tuple") (by decide +kernel))
  | dict l => exact (show PySem.W.kitOne K (.type "dict") (.type "tuple") = some false from kit_ty (a := "dict") (b := "tuple") (by decide +kernel))
theorem dp_tup {K : PySem.W.Frag} {H : Hp} {v : V} {ds : List PyData} (h : Dp K H v (.tuple ds)) : ∃ a xs, v = .ref a ∧ SqT K H a xs ∧ DpAll K H xs ds := by
  cases h with
  | tup h1 h2 => exact ⟨_, _, rfl, h1, h2⟩
theorem dpAll_len {K : PySem.W.Frag} {H : Hp} : ∀ {vs : List V} {ds : List PyData}, DpAll K H vs ds → vs.length = ds.length
  | _, _, .nil => rfl
  | _, _, .cons _ b => congrArg (· + 1) (dpAll_len b)
theorem rd_mono {H H' : Hp} (s : Same H H') {a : Addr} {o : HO} (h : Rd H a o) : Rd H' a o := by
  rcases h with h | ⟨ob, h⟩
  · exact .inl (s _ _ h)
  · exact .inr ⟨ob, s _ _ h⟩
theorem seqT_mono {K : PySem.W.Frag} {H H' : Hp} (s : Same H H') {a : Addr} {xs : List V} (h : SqT K H a xs) : SqT K H' a xs := by
  rcases h with h | h
  · exact .inl (rd_mono s h)
  · exact .inr h
mutual
theorem dp_mono {K : PySem.W.Frag} {H H' : Hp} (s : Same H H') : ∀ (d : PyData) (v : V), Dp K H v d → Dp K H' v d
  | .none, _, h => by cases h; exact .non
  | .bool b, _, h => by cases h; exact .bl b
  | .int i, _, h => by cases h; exact .int i
  | .str x, _, h => by cases h; exact .str x
  | .list ds, _, h => by
    cases h with
    | lst a b => exact .lst (s.seq a) (dpAll_mono s ds _ b)
  | .tuple ds, _, h => by
    cases h with
    | tup a b => exact .tup (seqT_mono s a) (dpAll_mono s ds _ b)
  | .dict _, _, h => by cases h
theorem dpAll_mono {K : PySem.W.Frag} {H H' : Hp} (s : Same H H') : ∀ (ds : List PyData) (vs : List V), DpAll K H vs ds → DpAll K H' vs ds
  | [], _, h => by cases h; exact .nil
  | d :: ds, _, h => by
    cases h with
    | cons a b => exact .cons (dp_mono s d _ a) (dpAll_mono s ds _ b)
end
def spWholeG (K : PySem.W.Frag) : Sp := fun vs H Q _ => ∃ (v : V) (d : PyData), vs = [v] ∧ Dp K H v d ∧ Q (.bl (isWholeD d)) H
def spWithinG (K : PySem.W.Frag) : Sp := fun vs H Q _ => ∃ (v : V) (d : PyData) (lo hi : Int), vs = [v, .int lo, .int hi] ∧ Dp K H v d ∧ Q (.bl (within d lo hi)) H
def spHandG (K : PySem.W.Frag) : Sp := fun vs H Q _ => ∃ (v : V) (d : PyData), vs = [v] ∧ Dp K H v d ∧ Q (.bl (within d 0 1)) H
def spRbG (K : PySem.W.Frag) : Sp := fun vs H Q _ => ∃ (v : V) (d : PyData), vs = [v] ∧ Dp K H v d ∧ Q (.int (rb 5 d : Nat)) H
def spStandG (K : PySem.W.Frag) (r : Nat) : Sp := fun vs H Q _ => ∃ (v : V) (d : PyData) (h : Nat), vs = [v, .int (h : Int), .int (r : Int)] ∧ Dp K H v d ∧ h < 2 ∧ (stand r d h = none → ∀ H', Same H H' → Q .non H') ∧ ∀ u, stand r d h = some u → ∀ (o : Addr) (H' : Hp), Same H H' → H' o = some (.tup (stV u)) → Q (.ref o) H'
def spPlaceG (K : PySem.W.Frag) (cH cN : Addr) : Sp := fun vs H Q E => ∃ (v hv : V) (d dh : PyData), vs = [v, hv] ∧ Dp K H v d ∧ Dp K H hv dh ∧ (within dh 0 1 = false → ∀ H', Same H H' → E (.ref cH) none H') ∧ (∀ h : Nat, dh = .int (h : Int) → h < 2 → (placeD d h = none → ∀ H', Same H H' → E (.ref cN) none H') ∧ ∀ j, placeD d h = some j → ∀ H', Same H H' → Q (.int j) H')
theorem fst2_ov (a b : Option Int) : ov (fst2 a b) = if a = none then ov b else ov a := by
  cases a <;> rfl
section
variable {P : Program} {w : World} {K : PySem.W.Frag} {mg : Str → Option Value} {base : Heap}
theorem stV_at0 (u : Stands) : atI (stV u) 0 = some (.int u.1) := rfl
theorem stV_at1 (u : Stands) : atI (stV u) 1 = some (ov u.2.1) := rfl
theorem stV_at2 (u : Stands) : atI (stV u) 2 = some (ov u.2.2) := rfl
abbrev nMet : List Str := ["own", "other", "at", "own0", "own1", "seen_at", "other0", "other1"]
theorem scMet : FnScope nMet ["own", "other"] (defScope s_met) := ⟨rfl, rfl, rfl, by decide +kernel, rfl, by decide +kernel, by decide +kernel⟩
theorem ok_met {f g : Addr} {fd gd : FuncData} (F : Fun K "met" "met" s_met f fd) (mA : mg "abs" = none) (A1 : Def P w K mg base "agrees" ["one", "other"] 1 spAgr g gd) : FnOk P w K mg base CX0 2 f fd ["own", "other"] spMet := by
  refine F.ok scMet (fun vs H Q E h => ?_) (fun cdv A outer s H vs Q E hr h => ?_)
  · obtain ⟨p, q, u, v, rfl, _⟩ := h
    rfl
  obtain ⟨p, q, u, v, rfl, hp, hq, q0, q1⟩ := h
  have nd := scMet.nd
  refine ⟨_, pss_cons (ps_asg (pv 0) (pg_tup (by rfl) (pgs_cons (pg_name (i := 2) nd rfl (Or.inl rfl)) (pgs_cons (pg_name (i := 3) nd rfl (Or.inl rfl)) (pgs_cons (pg_name (i := 4) nd rfl (Or.inl rfl)) pgs_nil)))))
    (pss_cons (ps_asg (pv 1) (pg_tup (by rfl) (pgs_cons (pg_name (i := 5) nd rfl (Or.inl rfl)) (pgs_cons (pg_name (i := 6) nd rfl (Or.inl rfl)) (pgs_cons (pg_name (i := 7) nd rfl (Or.inl rfl)) pgs_nil)))))
    (pss_cons (ps_if (PW.pt (pw_or (pt_cmpR op_ne (pe_callB call_abs (by rfl) mA (by decide +kernel) (pa_cons (pe_op op_sub (pv 2) (pv 5)) pa_nil)) pe_int (nomark _)) (pw_or (pt_not (pt_val (pe_call A1.G hr rfl A1.m A1.k A1.b .nil pass0 (pa_cons (pv 3) (pa_cons (pv 6) pa_nil))))) (pw_or1 (pt_not (pt_val (pe_call A1.G hr rfl A1.m A1.k A1.b .nil pass0 (pa_cons (pv 4) (pa_cons (pv 7) pa_nil)))))))) ) (pss_one (ps_ret pe_non)) pss_nil)
    (pss_one (ps_ret (pe_tup (pa_cons (pe_op op_add (pe_op op_mul pe_int (pv 2)) (pe_op op_mul pe_int (pe_op op_sub (pv 5) (pv 2)))) (pa_cons (pe_ifExp (pt_cmpR op_isN (pv 3) pe_non (nomark _)) (pv 6) (pv 3)) (pa_cons (pe_ifExp (pt_cmpR op_isN (pv 4) pe_non (nomark _)) (pv 7) (pv 4)) pa_nil)))))))), ?_⟩
  refine ⟨_, rfl, p, _, rfl, SqT.of hp, rfl, _, _, rfl, _, _, rfl, _, _, rfl, rfl, ?_⟩
  refine ⟨_, rfl, q, _, rfl, SqT.of hq, rfl, _, _, rfl, _, _, rfl, _, _, rfl, rfl, ?_⟩
  refine ⟨_, rfl, _, rfl, _, _, rfl, rfl, _, rfl, rfl, _, rfl, ?_⟩
  have habs : (if u.1 - v.1 < 0 then -(u.1 - v.1) else u.1 - v.1) = (((v.1 - u.1).natAbs : Nat) : Int) := by split <;> omega
  rw [habs]
  by_cases c1 : (v.1 - u.1).natAbs = 1
  case neg =>
    have e1 : (!decide (V.int (((v.1 - u.1).natAbs : Nat) : Int) = V.int 1)) = true := by
      rw [decide_eq_false (fun e => c1 (by injection e with e; omega))]; rfl
    rw [e1]
    refine iteT (iteT ?_)
    exact q0 (by unfold metD; rw [if_neg (fun z => c1 z.1)])
  have e1 : (!decide (V.int (((v.1 - u.1).natAbs : Nat) : Int) = V.int 1)) = false := by
    rw [decide_eq_true (by rw [c1]; rfl)]; rfl
  rw [e1]
  refine iteF ?_
  refine ⟨_, rfl, _, rfl, u.2.1, v.2.1, rfl, agr u.2.1 v.2.1, rfl, ?_⟩
  by_cases c2 : agr u.2.1 v.2.1 = true
  case neg =>
    rw [Bool.eq_false_iff.mpr c2]
    refine iteT (iteT ?_)
    exact q0 (by unfold metD; rw [if_neg (fun z => c2 z.2.1)])
  rw [c2]
  refine iteF ?_
  refine ⟨_, rfl, _, rfl, u.2.2, v.2.2, rfl, agr u.2.2 v.2.2, rfl, ?_⟩
  by_cases c3 : agr u.2.2 v.2.2 = true
  case neg =>
    rw [Bool.eq_false_iff.mpr c3]
    refine iteT ?_
    exact q0 (by unfold metD; rw [if_neg (fun z => c3 z.2.2)])
  rw [c3]
  refine iteF ?_
  refine ⟨_, rfl, _, _, rfl, rfl, .inl ⟨by decide, by decide⟩, _, rfl, _, rfl, _, _, rfl, rfl, _, _, rfl, rfl, .inl ⟨by decide, by decide⟩, _, _, rfl, rfl, ?_⟩
  have fin : ∀ x y : V, x = ov (fst2 u.2.1 v.2.1) → y = ov (fst2 u.2.2 v.2.2) → 3 ≤ sizeLine ∧ ∀ t, H t = none → Q (.ref t) (upd H t (.tup [.int (3 * u.1 + 2 * (v.1 - u.1)), x, y])) := fun x y ex ey =>
    ⟨by decide, fun t ht => q1 _ (by unfold metD; rw [if_pos ⟨c1, c2, c3⟩]) t _ (same_new ht _) (by rw [upd_same, ex, ey]; rfl)⟩
  refine ⟨_, rfl, rfl, _, rfl, ?_⟩
  cases o1 : u.2.1 with
  | none =>
    refine iteT ⟨_, rfl, ?_⟩
    refine ⟨_, rfl, rfl, _, rfl, ?_⟩
    cases o2 : u.2.2 with
    | none => exact iteT ⟨_, rfl, fin _ _ (by rw [o1]; rfl) (by rw [o2]; rfl)⟩
    | some i => exact iteF ⟨_, rfl, fin _ _ (by rw [o1]; rfl) (by rw [o2]; rfl)⟩
  | some i =>
    refine iteF ⟨_, rfl, ?_⟩
    refine ⟨_, rfl, rfl, _, rfl, ?_⟩
    cases o2 : u.2.2 with
    | none => exact iteT ⟨_, rfl, fin _ _ (by rw [o1]; rfl) (by rw [o2]; rfl)⟩
    | some i => exact iteF ⟨_, rfl, fin _ _ (by rw [o1]; rfl) (by rw [o2]; rfl)⟩
theorem scAgr : FnScope ["one", "other"] ["one", "other"] (defScope s_agrees) := ⟨rfl, rfl, rfl, by decide +kernel, rfl, by decide +kernel, by decide +kernel⟩
theorem ok_agr {f : Addr} {fd : FuncData} (F : Fun K "agrees" "agrees" s_agrees f fd) : FnOk P w K mg base CX0 1 f fd ["one", "other"] spAgr := by
  refine F.ok scAgr (fun vs H Q E h => ?_) (fun cdv A outer s H vs Q E hr h => ?_)
  · obtain ⟨a, b, rfl, _⟩ := h
    rfl
  obtain ⟨a, b, rfl, q⟩ := h
  refine ⟨_, pss_one (ps_ret (pe_or (pe_cmpR op_isN (pv 0) pe_non (nomark _)) (pe_or (pe_cmpR op_isN (pv 1) pe_non (nomark _)) (pe_one (pe_cmpR op_eq (pv 0) (pv 1) (nomark _)))))), ?_⟩
  refine ⟨_, rfl, rfl, _, rfl, ?_⟩
  cases a with
  | none => exact iteT q
  | some i =>
    refine iteF ⟨_, rfl, rfl, _, rfl, ?_⟩
    cases b with
    | none => exact iteT q
    | some j =>
      refine iteF ⟨_, rfl, _, rfl, rfl, ?_⟩
      have e : decide (V.int i = V.int j) = agr (some i) (some j) := by
        show decide (V.int i = V.int j) = decide (i = j)
        by_cases c : i = j
        · subst c; simp
        · rw [decide_eq_false (show ¬ i = j from c), decide_eq_false (fun z => c (by injection z))]
      show Q (.bl (decide (V.int i = V.int j))) H
      rw [e]
      exact q
end
end TA

set_option Elab.async false
set_option maxRecDepth 100000
set_option maxHeartbeats 4000000
namespace TA
open PySem L2 PyProof.Rows
set_option linter.unusedVariables false
theorem iteT' {c : Bool} {A B : Prop} (e : c = true) (a : A) : if c = true then A else B := by rw [if_pos e]; exact a
theorem iteF' {c : Bool} {A B : Prop} (e : c = false) (b : B) : if c = true then A else B := by rw [e]; exact b
theorem join2 {b : Bool} {X : Prop} {R : L2.St → Hp → Prop} {σ : L2.St} {H : Hp} (Iv : L2.St → Hp → Prop) (h0 : Iv σ H) (k : ∀ σ Hc, Iv σ Hc → R σ Hc) (h1 : b = true → (∀ σ Hc, Iv σ Hc → R σ Hc) → X) : if b = true then X else R σ H := by
  cases b with
  | false => exact iteF (k σ H h0)
  | true => exact iteT (h1 rfl k)
theorem tup_cases (d : PyData) : (∃ x y, d = .tuple [x, y]) ∨ (∀ x y, d ≠ .tuple [x, y]) := by
  match d with
  | .tuple [x, y] => exact .inl ⟨x, y, rfl⟩
  | .tuple [] | .tuple [_] | .tuple (_ :: _ :: _ :: _) | .none | .bool _ | .int _ | .str _ | .list _ | .dict _ => exact .inr (fun x y e => by cases e)
theorem rb_no {d : PyData} (h : ∀ x y, d ≠ .tuple [x, y]) : ∀ n, rb n d = 0
  | 0 => by simp [rb]
  | n + 1 => by
    match d, h with
    | .tuple [x, y], h => exact absurd rfl (h x y)
    | .tuple [], _ | .tuple [_], _ | .tuple (_ :: _ :: _ :: _), _ | .none, _ | .bool _, _ | .int _, _ | .str _, _ | .list _, _ | .dict _, _ => rfl
theorem stand_no {d : PyData} (h : ∀ x y, d ≠ .tuple [x, y]) (r g : Nat) : stand (r + 1) d g = none := by
  match d, h with
  | .tuple [x, y], h => exact absurd rfl (h x y)
  | .tuple [], _ | .tuple [_], _ | .tuple (_ :: _ :: _ :: _), _ | .none, _ | .bool _, _ | .int _, _ | .str _, _ | .list _, _ | .dict _, _ => rfl
theorem rb_le : ∀ (n : Nat) (d : PyData), rb n d ≤ n := by
  intro n
  induction n with
  | zero => intro d; simp [rb]
  | succ n ih =>
    intro d
    rcases tup_cases d with ⟨x, y, rfl⟩ | h
    · simp only [rb]; have := ih x; omega
    · rw [rb_no h]; omega
/-- a pair, or none -/
theorem dp_pair {K : PySem.W.Frag} {H : Hp} {v : V} {d : PyData} (h : Dp K H v d) : (∃ a x y e f, v = .ref a ∧ d = .tuple [e, f] ∧ SqT K H a [x, y] ∧ Dp K H x e ∧ Dp K H y f) ∨ ((∀ x y, d ≠ .tuple [x, y]) ∧ (isTupD d = false ∨ (isTupD d = true ∧ ∃ a xs, v = .ref a ∧ SqT K H a xs ∧ xs.length ≠ 2))) := by
  rcases tup_cases d with ⟨e, f, rfl⟩ | hn
  · left
    obtain ⟨a, xs, rfl, hs, ha⟩ := dp_tup h
    cases ha with
    | cons h1 h2 =>
      cases h2 with
      | cons h2 h3 =>
        cases h3
        exact ⟨_, _, _, _, _, rfl, rfl, hs, h1, h2⟩
  · right
    refine ⟨hn, ?_⟩
    cases h with
    | @tup a xs ds h1 h2 =>
      refine .inr ⟨rfl, a, xs, rfl, h1, fun e => ?_⟩
      have el := dpAll_len h2
      rw [e] at el
      match ds, el, hn with
      | [x, y], _, hn => exact hn x y rfl
    | _ => exact .inl rfl
theorem stand0_no {d : PyData} (h : isWholeD d = false) (g : Nat) : stand 0 d g = none := by
  cases d <;> first | rfl | cases h
section
variable {P : Program} {w : World} {K : PySem.W.Frag} {mg : Str → Option Value} {base : Heap}
theorem ok_wholeG {f : Addr} {fd : FuncData} (F : Fun K "is_whole" "is_whole" sWhole f fd) (T : Txt K mg) : FnOk P w K mg base CX0 1 f fd ["thing"] (spWholeG K) := by
  refine F.ok scWhole (fun vs H Q E h => ?_) (fun cdv A outer s H vs Q E hr h => ?_)
  · obtain ⟨v, d, rfl, _⟩ := h
    rfl
  obtain ⟨v, d, rfl, hk, q⟩ := h
  refine ⟨_, pss_one (ps_ret (pe_and (pe_callB call_isi (by rfl) T.isi boot_isinstance (pa_cons (pv 0) (pa_cons (pe_bltn (v := .ty "int") (by rfl) T.int boot_int rfl) pa_nil)))
    (pe_one (pe_not (pe_callB call_isi (by rfl) T.isi boot_isinstance (pa_cons (pv 0) (pa_cons (pe_bltn (v := .ty "bool") (by rfl) T.bool boot_bool rfl) pa_nil))))))), ?_⟩
  obtain ⟨b1, b2, e1, e2, e3⟩ := kit_int d (K := K)
  rw [e3] at q
  refine ⟨_, rfl, v, V.ty "int", _, _, b1, rfl, .ty "int", (dp_ty hk), e1, b1, rfl, ?_⟩
  cases b1 with
  | false => exact iteF q
  | true => exact iteT ⟨_, rfl, v, V.ty "bool", _, _, b2, rfl, .ty "bool", (dp_ty hk), e2, b2, rfl, q⟩
theorem ok_withinG {f g : Addr} {fd gd : FuncData} (F : Fun K "is_whole_within" "is_whole_within" sWithin f fd) (W : Def P w K mg base "is_whole" ["thing"] 1 (spWholeG K) g gd) : FnOk P w K mg base CX0 2 f fd ["thing", "least", "most"] (spWithinG K) := by
  refine F.ok scWithin (fun vs H Q E h => ?_) (fun cdv A outer s H vs Q E hr h => ?_)
  · obtain ⟨v, d, lo, hi, rfl, _⟩ := h
    rfl
  obtain ⟨v, d, lo, hi, rfl, hk, q⟩ := h
  refine ⟨_, pss_one (ps_ret (pe_and (pe_call W.G hr rfl W.m W.k W.b .nil pass0 (pa_cons (pv 0) pa_nil)) (pe_one (pe_chain op_le op_le (pv 1) (pv 0) (pv 2))))), ?_⟩
  refine ⟨_, rfl, v, d, rfl, hk, isWholeD d, rfl, ?_⟩
  by_cases hw : ∃ n, d = .int n
  · obtain ⟨n, rfl⟩ := hw
    have ev : v = .int n := by
      cases hk; rfl
    subst ev
    refine iteT ⟨_, rfl, _, rfl, _, _, rfl, rfl, _, rfl, ?_⟩
    by_cases h1 : lo ≤ n
    · rw [decide_eq_true h1]
      refine iteT ⟨_, rfl, _, _, rfl, rfl, ?_⟩
      have e : within (.int n) lo hi = decide (n ≤ hi) := by unfold within; simp [h1]
      rw [e] at q
      exact q
    · rw [decide_eq_false h1]
      refine iteF ?_
      have e : within (.int n) lo hi = false := by unfold within; simp [h1]
      rw [e] at q
      exact q
  · have e1 : isWholeD d = false := by
      cases d with
      | int n => exact absurd ⟨n, rfl⟩ hw
      | _ => rfl
    have e2 : within d lo hi = false := by
      cases d with
      | int n => exact absurd ⟨n, rfl⟩ hw
      | _ => rfl
    rw [e1]
    rw [e2] at q
    exact iteF q
theorem ok_handG {f g : Addr} {fd gd : FuncData} (F : Fun K "is_hand" "is_hand" sHand f fd) (W : Def P w K mg base "is_whole_within" ["thing", "least", "most"] 2 (spWithinG K) g gd) : FnOk P w K mg base CX0 3 f fd ["thing"] (spHandG K) := by
  refine F.ok scHand (fun vs H Q E h => ?_) (fun cdv A outer s H vs Q E hr h => ?_)
  · obtain ⟨v, d, rfl, _⟩ := h
    rfl
  obtain ⟨v, d, rfl, hk, q⟩ := h
  refine ⟨_, pss_one (ps_ret (pe_call W.G hr rfl W.m W.k W.b .nil pass0 (pa_cons (pv 0) (pa_cons pe_int (pa_cons pe_int pa_nil))))), ?_⟩
  exact ⟨_, rfl, v, d, 0, 1, rfl, hk, q⟩
theorem scRb : FnScope ["thing", "rounds"] ["thing"] (defScope s_rounds_behind) := ⟨rfl, rfl, rfl, by decide +kernel, rfl, by decide +kernel, by decide +kernel⟩
theorem ok_rbG {f : Addr} {fd : FuncData} (F : Fun K "rounds_behind" "rounds_behind" s_rounds_behind f fd) (T : Txt K mg) (U : Txt2 K mg) : FnOk P w K mg base CX0 1 f fd ["thing"] (spRbG K) := by
  refine F.ok scRb (fun vs H Q E h => ?_) (fun cdv A outer s H vs Q E hr h => ?_)
  · obtain ⟨v, d, rfl, _⟩ := h
    rfl
  obtain ⟨v, d, rfl, hk, q⟩ := h
  obtain ⟨t5, m5⟩ := U.five
  have nd := scRb.nd
  refine ⟨_, pss_cons (ps_set (i := 1) nd rfl (Or.inl rfl) pe_int)
    (pss_cons (ps_while PassesOwn.never (PW.pt (pw_and (pt_cmpR op_lt (pv 1) (pe_glob (v := .int 5) rfl m5 ⟨_, rfl⟩) (nomark _)) (pw_and (pt_val (pe_callB call_isi (by rfl) T.isi boot_isinstance (pa_cons (pv 0) (pa_cons (pe_bltn (v := .ty "tuple") (by rfl) T.tuple boot_tuple rfl) pa_nil)))) (pw_and1 (pt_cmpR op_eq (pe_callB call_len_seq (by rfl) T.len PySem.boot_len (pa_cons (pv 0) pa_nil)) pe_int (nomark _))))))
      (pss_cons (ps_set (i := 0) nd rfl (Or.inl rfl) (pe_ix ix_tup (pv 0) pe_int (fun _ _ => rfl)))
      (pss_one (ps_aug (i := 1) nd rfl (Or.inl rfl) pe_int ip_add))))
    (pss_one (ps_ret (pv 1)))), ?_⟩
  refine ⟨fun m σ H' => ∃ (k : Nat) (v' : V) (d' : PyData), σ = [some v', some (.int (k : Int))] ∧ H' = H ∧ Dp K H v' d' ∧ m + k = 5 ∧ rb 5 d = k + rb m d', ⟨5, 0, v, d, rfl, rfl, hk, rfl, (Nat.zero_add _).symm⟩, ?_⟩
  rintro m σ H' ⟨k, v', d', rfl, rfl, hk', hm, he⟩
  refine ⟨_, rfl, _, _, rfl, rfl, _, rfl, ?_⟩
  by_cases c : k < 5
  · rw [decide_eq_true (show ((k : Nat) : Int) < 5 by omega)]
    refine iteT ?_
    obtain ⟨m', rfl⟩ : ∃ m', m = m' + 1 := ⟨m - 1, by omega⟩
    have stop : (∀ x y, d' ≠ .tuple [x, y]) → Q (.int ((k : Nat) : Int)) H' := fun hn => by
      rw [show rb 5 d = k from by rw [he, rb_no hn]; omega] at q
      exact q
    rcases dp_pair hk' with ⟨a, x, y, e, g, rfl, rfl, ha, hx, hy⟩ | ⟨hn, c2 | ⟨c2, a, xs, rfl, ha, hl⟩⟩
    · refine ⟨_, rfl, V.ref a, V.ty "tuple", _, _, true, rfl, .ty "tuple", dp_ty hk', kit_tup _, true, rfl, iteT ?_⟩
      refine ⟨_, rfl, a, _, rfl, .inr ha, rfl, _, rfl, iteT ?_⟩
      refine ⟨fun σ' H'' => ∃ m'' < m' + 1, ∃ (k : Nat) (v' : V) (d' : PyData), σ' = [some v', some (.int (k : Int))] ∧ H'' = H' ∧ Dp K H' v' d' ∧ m'' + k = 5 ∧ rb 5 d = k + rb m'' d', fun σ' H'' h => h, ?_⟩
      refine ⟨_, rfl, a, _, _, _, rfl, rfl, ha, (by rfl), ?_⟩
      refine ⟨_, rfl, _, _, rfl, rfl, m', Nat.lt_succ_self _, k + 1, x, e, rfl, rfl, hx, by omega, ?_⟩
      rw [he]
      simp only [rb]
      omega
    · refine ⟨_, rfl, v', V.ty "tuple", _, _, false, rfl, .ty "tuple", dp_ty hk', (by rw [kit_tup, c2]), false, rfl, iteF (iteF ?_)⟩
      exact ⟨_, rfl, stop hn⟩
    · refine ⟨_, rfl, V.ref a, V.ty "tuple", _, _, true, rfl, .ty "tuple", dp_ty hk', (by rw [kit_tup, c2]), true, rfl, iteT ?_⟩
      refine ⟨_, rfl, a, _, rfl, .inr ha, rfl, _, rfl, iteF' (decide_eq_false fun e => hl (by injection e with e; omega)) ?_⟩
      exact ⟨_, rfl, stop hn⟩
  · rw [decide_eq_false (show ¬ ((k : Nat) : Int) < 5 by omega)]
    refine iteF (iteF ?_)
    refine ⟨_, rfl, ?_⟩
    obtain rfl : m = 0 := by omega
    rw [show rb 5 d = k from by rw [he]; simp [rb]] at q
    exact q
abbrev nStand : List Str := ["thing", "hand", "rounds", "own", "other"]
theorem scStand : FnScope nStand ["thing", "hand", "rounds"] (defScope s_standing) := ⟨rfl, rfl, rfl, by decide +kernel, rfl, by decide +kernel, by decide +kernel⟩
theorem ok_standG {f g1 g2 : Addr} {fd d1 d2 : FuncData} (F : Fun K "standing" "standing" s_standing f fd) (T : Txt K mg) (W : Def P w K mg base "is_whole" ["thing"] 1 (spWholeG K) g1 d1) (M1 : Def P w K mg base "met" ["own", "other"] 2 spMet g2 d2) (bF : Binds K fd ["thing", "hand", "rounds"] []) (kF : PySem.W.keepIn K (.ref f) = true) (mF : mg "standing" = some (.ref f)) :
    ∀ r, FnOk P w K mg base CX0 (3 + r) f fd ["thing", "hand", "rounds"] (spStandG K r)
  | 0 => by
    refine F.ok scStand (fun vs H Q E h => ?_) (fun cdv A outer s H vs Q E hr h => ?_)
    · obtain ⟨v, d, h, rfl, _⟩ := h
      rfl
    obtain ⟨v, d, h, rfl, hk, hh, q0, q1⟩ := h
    have nd := scStand.nd
    refine ⟨_, pss_cons (ps_if (pt_cmpR op_eq (pv 2) pe_int (nomark _))
        (pss_cons (ps_if (PW.pt (pw_or (pt_not (pt_val (pe_call W.G (hr.mono (by decide)) rfl W.m W.k W.b .nil pass0 (pa_cons (pv 0) pa_nil)))) (pw_or1 (pt_cmpR op_lt (pv 0) pe_int (nomark _))))) (pss_one (ps_ret pe_non)) pss_nil)
        (pss_one (ps_ret (pe_ifExp (pt_cmpR op_eq (pv 1) pe_int (nomark _)) (pe_tup (pa_cons pe_int (pa_cons (pv 0) (pa_cons pe_non pa_nil)))) (pe_tup (pa_cons pe_int (pa_cons pe_non (pa_cons (pv 0) pa_nil)))))))) pss_nil)
      pss_never, ?_⟩
    refine ⟨_, rfl, rfl, _, rfl, ?_⟩
    refine iteT ?_
    refine ⟨_, rfl, v, d, rfl, hk, isWholeD d, rfl, ?_⟩
    cases cw : isWholeD d with
    | false => exact iteT (iteT (q0 (stand0_no cw h) _ (Same.refl H)))
    | true =>
      obtain ⟨i, rfl⟩ : ∃ i, d = .int i := by cases d <;> first | exact ⟨_, rfl⟩ | cases cw
      cases hk
      refine iteF ⟨_, rfl, _, _, rfl, rfl, _, rfl, ?_⟩
      refine ite2 (fun c => ?_) (fun c => ?_)
      · have c' : i < 0 := of_decide_eq_true c
        exact q0 (by simp [stand]; omega) _ (Same.refl H)
      · have c' : ¬ i < 0 := of_decide_eq_false (Bool.eq_false_iff.mpr c)
        have e0 : stand 0 (.int i) h = some (if h = 0 then (0, some i, none) else (1, none, some i)) := by simp [stand]; omega
        refine ⟨_, rfl, rfl, _, rfl, ?_⟩
        obtain rfl | rfl : h = 0 ∨ h = 1 := by omega
        · refine iteT ⟨_, rfl, (by show 3 ≤ sizeLine; decide), fun t ht => q1 _ e0 t _ (same_new ht _) (by rw [upd_same]; rfl)⟩
        · refine iteF ⟨_, rfl, (by show 3 ≤ sizeLine; decide), fun t ht => q1 _ e0 t _ (same_new ht _) (by rw [upd_same]; rfl)⟩
  | r + 1 => by
    have ih := ok_standG F T W M1 bF kF mF r
    refine F.ok (k := 3 + r) scStand (fun vs H Q E h => ?_) (fun cdv A outer s H vs Q E hr h => ?_)
    · obtain ⟨v, d, h, rfl, _⟩ := h
      rfl
    obtain ⟨v, d, h, rfl, hk, hh, q0, q1⟩ := h
    have nd := scStand.nd
    refine ⟨_, pss_cons (ps_if (pt_cmpR op_eq (pv 2) pe_int (nomark _)) pss_never pss_nil)
      (pss_cons (ps_if (PW.pt (pw_or (pt_not (pt_val (pe_callB call_isi (by rfl) T.isi boot_isinstance (pa_cons (pv 0) (pa_cons (pe_bltn (v := .ty "tuple") (by rfl) T.tuple boot_tuple rfl) pa_nil))))) (pw_or1 (pt_cmpR op_ne (pe_callB call_len_seq (by rfl) T.len PySem.boot_len (pa_cons (pv 0) pa_nil)) pe_int (nomark _))))) (pss_one (ps_ret pe_non)) pss_nil)
      (pss_cons (ps_set (i := 3) nd rfl (Or.inl rfl) (pe_call ih hr rfl mF kF bF .nil pass0 (pa_cons (pe_ix ix_tup (pv 0) pe_int (fun _ _ => rfl)) (pa_cons (pv 1) (pa_cons (pe_op op_sub (pv 2) pe_int) pa_nil)))))
      (pss_cons (ps_if (pt_cmpR op_isN (pv 3) pe_non (nomark _)) (pss_one (ps_ret pe_non)) pss_nil)
      (pss_cons (ps_if (pt_cmpR op_isN (pe_ix ix_tup (pv 0) pe_int (fun _ _ => rfl)) pe_non (nomark _)) (pss_one (ps_ret (pe_tup (pa_cons (pe_op op_mul pe_int (pe_ix ix_tup (pv 3) pe_int (fun _ _ => rfl))) (pa_cons (pe_ix ix_tup (pv 3) pe_int (fun _ _ => rfl)) (pa_cons (pe_ix ix_tup (pv 3) pe_int (fun _ _ => rfl)) pa_nil)))))) pss_nil)
      (pss_cons (ps_set (i := 4) nd rfl (Or.inl rfl) (pe_call ih hr rfl mF kF bF .nil pass0 (pa_cons (pe_ix ix_tup (pv 0) pe_int (fun _ _ => rfl)) (pa_cons (pe_op op_sub pe_int (pv 1)) (pa_cons (pe_op op_sub (pv 2) pe_int) pa_nil)))))
      (pss_one (ps_ret (pe_ifExp (pt_cmpR op_isN (pv 4) pe_non (nomark _)) pe_non (pe_call M1.G (hr.mono (by omega)) rfl M1.m M1.k M1.b .nil pass0 (pa_cons (pv 3) (pa_cons (pv 4) pa_nil)))))))))))
, ?_⟩
    refine ⟨_, rfl, rfl, _, rfl, ?_⟩
    have e0 : decide (V.int ((r + 1 : Nat) : Int) = V.int 0) = false := decide_eq_false (fun e => by injection e with e; omega)
    rw [e0]
    refine iteF ?_
    rcases dp_pair hk with ⟨a, x, y, e, g, rfl, rfl, ha, hx, hy⟩ | ⟨hn, c2 | ⟨c2, a, xs, rfl, ha, hl⟩⟩
    case inr.inl =>
      refine ⟨_, rfl, v, V.ty "tuple", _, _, false, rfl, .ty "tuple", dp_ty hk, (by rw [kit_tup, c2]), false, rfl, iteT (iteT ?_)⟩
      exact q0 (stand_no hn r h) _ (Same.refl H)
    case inr.inr =>
      refine ⟨_, rfl, V.ref a, V.ty "tuple", _, _, true, rfl, .ty "tuple", dp_ty hk, (by rw [kit_tup, c2]), true, rfl, iteF ?_⟩
      refine ⟨_, rfl, a, _, rfl, .inr ha, rfl, _, rfl, iteT' (by show (!decide (V.int (xs.length : Nat) = V.int 2)) = true; rw [decide_eq_false fun e => hl (by injection e with e; omega)]; rfl) ?_⟩
      exact q0 (stand_no hn r h) _ (Same.refl H)
    case inl =>
      refine ⟨_, rfl, V.ref a, V.ty "tuple", _, _, true, rfl, .ty "tuple", dp_ty hk, kit_tup _, true, rfl, iteF ?_⟩
      refine ⟨_, rfl, a, _, rfl, .inr (ha), rfl, _, rfl, iteF ?_⟩
      have er : ((r + 1 : Nat) : Int) - 1 = (r : Int) := by omega
      refine ⟨_, rfl, a, _, _, _, rfl, rfl, ha, (by rfl), _, rfl, _, rfl, _, _, rfl, rfl, ?_⟩
      refine ⟨x, e, h, (by show [x, V.int (h : Int), V.int (((r + 1 : Nat) : Int) - 1)] = _; rw [er]), hx, hh, fun n1 H1 s1 => ?_, fun u n1 p H1 s1 hp => ?_⟩
      · refine ⟨_, rfl, rfl, _, rfl, iteT ?_⟩
        exact q0 (by show stand1 _ _ _ = none; rw [n1]; rfl) _ s1
      · refine ⟨_, rfl, rfl, _, rfl, iteF ?_⟩
        have ha1 := seqT_mono s1 ha
        refine ⟨_, rfl, a, _, _, _, rfl, rfl, ha1, (by rfl), rfl, _, rfl, ?_⟩
        have hyN : decide (y = V.non) = isN g := dp_non hy
        rw [hyN]
        cases cN : isN g with
        | true =>
          refine iteT ⟨_, rfl, p, _, _, _, rfl, rfl, SqT.of hp, (by rfl), _, _, rfl, rfl, .inl ⟨by decide, by decide⟩, _, rfl, p, _, _, _, rfl, rfl, SqT.of hp, (by rfl), _, rfl, p, _, _, _, rfl, rfl, SqT.of hp, (by rfl), (by show 3 ≤ sizeLine; decide), fun t ht => ?_⟩
          exact q1 (3 * u.1, u.2.1, u.2.2) (by show stand1 _ _ _ = _; rw [n1]; unfold stand1; rw [Option.bind_some, if_pos cN]) t _ (s1.trans (same_new ht _)) (by rw [upd_same]; rfl)
        | false =>
          refine iteF ⟨_, rfl, a, _, _, _, rfl, rfl, ha1, (by rfl), _, rfl, _, _, rfl, rfl, _, rfl, _, _, rfl, rfl, ?_⟩
          have est : ∀ z, stand r g (1 - h) = z → stand (r + 1) (.tuple [e, g]) h = z.bind (metD u) := fun z hz => by
            show stand1 _ _ _ = _
            rw [n1, hz]
            unfold stand1
            rw [Option.bind_some, if_neg (by rw [cN]; decide)]
          refine ⟨y, g, 1 - h, (by show [y, V.int ((1 : Int) - (h : Int)), V.int (((r + 1 : Nat) : Int) - 1)] = _; rw [er, show (1 : Int) - (h : Int) = ((1 - h : Nat) : Int) by omega]), dp_mono s1 _ _ hy, by omega, fun n2 H2 s2 => ?_, fun u2 n2 p2 H2 s2 hp2 => ?_⟩
          · refine ⟨_, rfl, rfl, _, rfl, iteT ?_⟩
            exact q0 (by rw [est _ n2]; rfl) _ (s1.trans s2)
          · refine ⟨_, rfl, rfl, _, rfl, iteF ?_⟩
            refine ⟨_, rfl, _, rfl, p, p2, u, u2, rfl, s2 _ _ hp, hp2, fun n3 => ?_, fun w3 n3 o H3 s3 ho => ?_⟩
            · exact q0 (by rw [est _ n2]; exact n3) _ (s1.trans s2)
            · exact q1 w3 (by rw [est _ n2]; exact n3) o _ (s1.trans (s2.trans s3)) ho
theorem scPlace : FnScope ["known", "hand", "stands"] ["known", "hand"] (defScope sPlace) := ⟨rfl, rfl, rfl, by decide +kernel, rfl, by decide +kernel, by decide +kernel⟩
theorem within_hand {d : PyData} (h : within d 0 1 = true) : ∃ n : Nat, d = .int (n : Int) ∧ n < 2 := by
  cases d with
  | int i =>
    have : decide ((0 : Int) ≤ i ∧ i ≤ 1) = true := h
    have := of_decide_eq_true this
    exact ⟨i.toNat, by congr 1; omega, by omega⟩
  | _ => cases h
theorem ok_placeG {f g1 g2 g3 cH cN : Addr} {fd d1 d2 d3 : FuncData} (F : Fun K "place" "place" sPlace f fd) (RH : RaiseC K mg "NoHand" cH) (R : RaiseC K mg "NoKnown" cN) (W1 : Def P w K mg base "is_hand" ["thing"] 3 (spHandG K) g1 d1) (W2 : Def P w K mg base "rounds_behind" ["thing"] 1 (spRbG K) g2 d2)
    (bS : Binds K d3 ["thing", "hand", "rounds"] []) (kS : PySem.W.keepIn K (.ref g3) = true) (mS : mg "standing" = some (.ref g3)) (S : ∀ r, r ≤ 5 → FnOk P w K mg base CX0 (3 + r) g3 d3 ["thing", "hand", "rounds"] (spStandG K r)) :
    FnOk P w K mg base (L2.CX P w) 9 f fd ["known", "hand"] (spPlaceG K cH cN) := by
  refine F.okX scPlace (fun vs H Q E h => ?_) (fun cdv A outer s H vs Q E hr h => ?_)
  · obtain ⟨v, hv, d, dh, rfl, _⟩ := h
    rfl
  obtain ⟨v, hv, d, dh, rfl, hk, hkh, qh, q⟩ := h
  have nd := scPlace.nd
  have h5 : rb 5 d ≤ 5 := rb_le 5 d
  refine ⟨_, pss_cons (ps_if (pt_not (pt_val (pe_call W1.G (hr.mono (by decide)) rfl W1.m W1.k W1.b .nil pass0 (pa_cons (pv 1) pa_nil)))) (pss_one (ps_raise rfl (takes_of rfl rfl rfl rfl) (pmk_own PySem.F.excBase_ValueError RH.x RH.m RH.k (raises_own RH.b RH.t) (by exact rfl)))) pss_nil)
    (pss_cons (ps_set (i := 2) nd rfl (Or.inl rfl) (pe_call (S (rb 5 d) h5) (hr.mono (by omega)) rfl mS kS bS .nil pass0 (pa_cons (pv 0) (pa_cons (pv 1) (pa_cons (pe_call W2.G (hr.mono (by decide)) rfl W2.m W2.k W2.b .nil pass0 (pa_cons (pv 0) pa_nil)) pa_nil)))))
    (pss_cons (ps_if (pt_cmpR op_isN (pv 2) pe_non (nomark _)) (pss_one (ps_raise rfl (takes_of rfl rfl rfl rfl) (pmk_own PySem.F.excBase_ValueError R.x R.m R.k (raises_own R.b R.t) (by exact rfl)))) pss_nil)
    (PSs.nox (pss_one (ps_ret (pe_ix ix_tup (pv 2) pe_int (fun _ _ => rfl))))))), ?_⟩
  refine ⟨_, rfl, hv, dh, rfl, hkh, within dh 0 1, rfl, ?_⟩
  cases cw : within dh 0 1 with
  | false => exact iteT (qh cw _ (Same.refl H))
  | true =>
    obtain ⟨h, rfl, hh⟩ := within_hand cw
    cases hkh
    obtain ⟨q0, q1⟩ := q h rfl hh
    refine iteF ?_
    refine ⟨_, rfl, _, rfl, _, rfl, v, d, rfl, hk, v, d, h, rfl, hk, hh, fun n1 H1 s1 => ?_, fun u n1 p H1 s1 hp => ?_⟩
    · refine ⟨_, rfl, rfl, _, rfl, iteT ?_⟩
      exact q0 (by unfold placeD; rw [n1]; rfl) _ s1
    · refine ⟨_, rfl, rfl, _, rfl, iteF ?_⟩
      exact ⟨_, rfl, p, _, _, _, rfl, rfl, SqT.of hp, (by rfl), q1 u.1 (by unfold placeD; rw [n1]; rfl) _ s1⟩
end
end TA

set_option Elab.async false
set_option maxRecDepth 100000
set_option maxHeartbeats 4000000
namespace TA
open PySem PySem.Spec L2 PyProof.Rows LamX
set_option linter.unusedVariables false
/-! try: .. except A as n: .. and further clauses: where the body raises, the first clause takes it -/
def wFirst (K : PySem.W.Frag) (c : Value) (i : Nat) (ts : Addr → Value → Option Addr → TS) (D : Ends) : WX := fun cls d σ H => PySem.W.exmOne K cls c = some true ∧ ∀ a, H a = none → ts a cls d { nx := fun σ' H' => D.nx (σ'.set i none) H', rt := D.rt, bk := fun σ' H' => D.bk (σ'.set i none) H', ct := fun σ' H' => D.ct (σ'.set i none) H' } (σ.set i (some (.ref a))) H
theorem ps_try_first {X : Cx} {x n : Str} {c : Value} {i : Nat} {body suite : List Stmt} {b₀ : Stmt} {np pos pos' : Pos} {more : List ExceptHandler} {tb : WX → TS} {ts : Addr → Value → Option Addr → TS} (stk : X.stack = X.env :: X.outer) (frm : X.env.frame = some X.env.locals) (nodup : X.N.Nodup) (slot : X.N[i]? = some n) (isLoc : X.env.kindOf n = some .local) (named : Names X x c)
    (inner : ∀ (W : WX) (pn : List (Addr × Obj)) (xe : Value → Shared → Prop), Takes (X.tr pn xe) W → PassesOwn (model X.prog X.w) X.A X.env xe → PSs (X.tr pn xe) body (tb W)) (clause : ∀ (a : Addr) (oe : Obj) (cls : Value) (d : Option Addr) (pn : List (Addr × Obj)), Zc cls d oe → (∃ vs, oe.data = .fields vs) → PSs (X.suite a ((a, oe) :: pn)) (b₀ :: suite) (ts a cls d)) :
    PS X (.Try body (.ExceptHandler (some (.Name x np)) (some n) (b₀ :: suite) pos' :: more) [] [] pos) (fun D σ H => tb (wFirst X.K c i ts D) D σ H) := by
  refine ⟨fun pins s σ H D inv given => ?_⟩
  have fine := inv.ok
  have local' : Loc X.env.scope n := .inl isLoc
  refine wpAny_Try_except ?_
  have runs := (inner (wFirst X.K c i ts D) (X.pn ++ pins) (fun e s₁ => wpAny (model X.prog X.w) X.A (noteFrame e X.env) (fun _ s₂ => wpAny (model X.prog X.w) X.A (setFlight e none) (fun _ s₃ => wpAny (model X.prog X.w) X.A (handleBy e X.env (.ExceptHandler (some (.Name x np)) (some n) (b₀ :: suite) pos' :: more)) (SP X pins D) X.xe s₃) X.xe s₂) X.xe s₁) (fun u s' met => ?caught) PassesOwn.looking).run [] s σ H D (inv.toTry _) given
  case caught =>
    obtain ⟨a, B, sI, pins', σ', H', cls, d, rfl, J', nb, up, sky, na, os, ag, hb1, hyes⟩ := met
    have J : Inv X pins σ' H' sI := J'.ofTry fine
    have above : Sky B (X.env :: X.outer) a (Zc cls d) X.env.locals s'.heap := by rw [← stk]; exact sky
    show wpAny (model X.prog X.w) X.A (noteFrame (.ref a) X.env) _ _ _
    refine Sky.land Zc.steady (by rw [fine.frames, stk]) frm above fun h3 fl3 up3 => ?_
    have J3 : Inv X pins σ' H' { s' with heap := h3 } := J.landed nb fl3.1 (up.trans up3) os ag
    obtain ⟨oe3, vs3, he3, hz3, hd3⟩ := fl3.there
    have outside : a ∉ frs (X.env :: X.outer) := fun hm => by
      obtain ⟨_, o', e', hnf⟩ := fl3.2.2.1.mem hm
      rw [he3] at e'; cases e'
      exact hnf _ hd3
    have notL : a ≠ X.env.locals := fun z => outside (List.mem_filterMap.mpr ⟨X.env, List.mem_cons_self, by rw [frm, z]⟩)
    have notF : a ∉ X.fs := fun hm => by
      obtain ⟨v, hv, q⟩ := List.mem_filterMap.mp hm
      exact outside (List.mem_filterMap.mpr ⟨v, List.mem_cons_of_mem _ hv, q⟩)
    have S3 := J3.suite he3 hd3 na notL notF
    refine wpAny_handleBy_cons (codeAny_handlers_test ?_) (fun q => nomatch q)
    have looks : PySem.W.Looks (model X.prog X.w) h3 (typeOf (.ref a)) cls := fun _ _ _ _ k q => wpAny_typeOf_ref (k _ _ he3) (by rw [hz3.1]; exact q)
    have asked := PySem.W.exm_one (M := model X.prog X.w) (J3.kIn) looks hb1
    have named' : ∀ {Q E : Value → Shared → Prop}, Q c { s' with heap := h3 } → wpAny (model X.prog X.w) (X.A.mark (some (.ref a))) (eval (.Name x np) X.env) Q E { s' with heap := h3 } := fun q => by
      obtain ⟨g1, g2, m1 | ⟨m1, m2, m3⟩⟩ := named
      · exact ld_glob (X := X.suite a ((a, oe3) :: (X.pn ++ pins))) S3 g1 m1 q g2
      · exact ld_blt (X := X.suite a ((a, oe3) :: (X.pn ++ pins))) S3 g1 m1 m2 q m3 g2
    refine named' (asked.here (codeAny_handlers_suite_as ?_))
    refine HandSPX.lands_againZ fl3 fun h4 fl4 up4 => ?_
    have J4 : Inv X pins σ' H' { s' with heap := h4 } := J.landed nb fl4.1 ((up.trans up3).trans up4) os ag
    obtain ⟨oe4, vs4, he4, hz4, hd4⟩ := fl4.there
    have S4 := J4.suite he4 hd4 na notL notF
    refine store_ok (X := X.suite a ((a, oe4) :: (X.pn ++ pins))) (v := .ref a) S4 nodup slot local' rfl (fun s5 S5 => ?_) (.inr isLoc)
    refine wpAny_mono ((clause a oe4 cls d (X.pn ++ pins) hz4 ⟨_, hd4⟩).run [] s5 _ H' _ S5 (hyes a na)) (fun f s6 past => ?_) (fun _ _ z => z.elim)
    have over : ∀ {σ6 : L2.St} {H6 : Hp} {Q : Shared → Prop}, Inv (X.suite a ((a, oe4) :: (X.pn ++ pins))) [] σ6 H6 s6 → (∀ s7, Inv X pins (σ6.set i none) H6 s7 → Q s7) → wpAny (model X.prog X.w) X.A (do bindName X.env n .none; unbindBehindTheSuite X.env n pos') (fun _ s7 => Q s7) X.xe s6 := fun S6 hq => gone_ok (S6.unsuite fine) nodup slot isLoc hq
    cases f with
    | next => obtain ⟨_, _, S6, q6⟩ := past; exact over S6 fun s7 J7 => ⟨_, _, J7, q6⟩
    | brk => obtain ⟨_, _, S6, q6⟩ := past; exact over S6 fun s7 J7 => ⟨_, _, J7, q6⟩
    | cont => obtain ⟨_, _, S6, q6⟩ := past; exact over S6 fun s7 J7 => ⟨_, _, J7, q6⟩
    | ret u => obtain ⟨_, _, _, S6, r6, q6⟩ := past; exact over S6 fun s7 J7 => ⟨_, _, _, J7, r6, q6⟩
  refine wpAny_mono runs (fun f s1 past => ?_) (fun _ _ he => he)
  cases f with
  | next => obtain ⟨_, _, J', q⟩ := past; exact wpAny_execs_nil ⟨_, _, J'.ofTry fine, q⟩
  | brk => obtain ⟨_, _, J', q⟩ := past; exact ⟨_, _, J'.ofTry fine, q⟩
  | cont => obtain ⟨_, _, J', q⟩ := past; exact ⟨_, _, J'.ofTry fine, q⟩
  | ret u => obtain ⟨_, _, _, J', r, q⟩ := past; exact ⟨_, _, _, J'.ofTry fine, r, q⟩
/-- isinstance of the error that an except suite holds: which class it has is said by the reading -/
theorem call_isE2 {X : Cx} {a : Addr} {oe : Obj} {cls : Value} {d : Option Addr} {pn : List (Addr × Obj)} (hz : Zc cls d oe) (hf : ∃ vs, oe.data = .fields vs) : CallR (X.suite a ((a, oe) :: pn)) (.builtin "isinstance") (fun xs H Q => ∃ D : Addr, cls = .ref D ∧ d = none ∧ ExcC X.K D ∧ rIsE X.K D a xs H Q) := by
  intro pins s σ H xs us Q I r h
  obtain ⟨D, rfl, rfl, T, h⟩ := h
  exact call_isE T hz hf pins s σ H xs us Q I r h
theorem pss_read {X : Cx} {b : List Stmt} {T : TS} (h : ∀ (pins : List (Addr × Obj)) (s : Shared) (σ : L2.St) (H : Hp) (D : Ends), Inv X pins σ H s → T D σ H → ∃ t, PSs X b t ∧ t D σ H) : PSs X b T := ⟨fun pins s σ H D I q => by
  obtain ⟨t, p, r⟩ := h pins s σ H D I q
  exact p.run pins s σ H D I r⟩
/-! where nothing is under way: repr -/
/-- what a def keeps where no repr is under way around it -/
structure Quiet (P : Program) (w : World) (K : PySem.W.Frag) (mg : Str → Option Value) (base : Heap) (k : Nat) (f : Addr) (fd : FuncData) (ps : List Str) (sp : Sp) : Prop where
  len : ∀ vs H Q E, sp vs H Q E → vs.length = ps.length
  run : ∀ (A : Around) (outer : List Env) (s : Shared) (H : Hp) (args : Args) (us : List Value) (vs : List V) (Q : VK) (E : XK), A.guards = some [] → Room k A → Env0 P w K mg base A outer s H → BindsTo s fd args (ps.zip us) → Vals vs us → sp vs H Q E →
    codeAny (model P w) A (.call (.ref f) args) (CR CX0 outer P w H s Q E) s
section
variable {P : Program} {w : World} {K : PySem.W.Frag} {mg : Str → Option Value} {base : Heap}
theorem quiet_of {x qual : Str} {st : Stmt} {f : Addr} {fd : FuncData} {N ps : List Str} {k : Nat} {sp : Sp} (F : Fun K x qual st f fd) (S : FnScope N ps (defScope st)) (len : ∀ vs H Q E, sp vs H Q E → vs.length = ps.length)
    (body : ∀ (cdv : Value) (A : Around) (outer : List Env) (s : Shared) (H : Hp) (vs : List V) (Q : VK) (E : XK), A.guards = some [] → Room k (A.deeper (envOfC qual (defScope st) s.heap.objs.size f cdv)) → sp vs H Q E →
      ∃ t, PSs (cxOf CX0 P w K mg base N qual (defScope st) f cdv A outer s H E).nox (defBody st) t ∧ t { nx := fun _ H' => Q .non H', rt := Q } (L2.start N vs) H) : Quiet P w K mg base (k + 1) f fd ps sp := by
  obtain ⟨oc, od, kV, doc, pm, an, cdv, ct, osl, rfl, lk, hcd⟩ := F.ex
  refine ⟨len, fun A outer s H args us vs Q E hg hr e0 hb hv hs => ?_⟩
  refine run_ofS (N := N) (ps := ps) lk hcd S hr e0 hb hv (len _ _ _ _ hs) fun hr2 => ?_
  obtain ⟨t, p, q⟩ := body cdv A outer s H vs Q E hg hr2 hs
  exact ⟨t, p.nox, q⟩
theorem pe_quiet {X : Cx} {k : Nat} {f : Addr} {fd : FuncData} {ps : List Str} {sp : Sp} {x : Str} {p pos : Pos} {e : Expr} {es : List Expr} {t : TA} (F : Quiet X.prog X.w X.K X.mg X.base k f fd ps sp) (hq : X.A.guards = some []) (hr : Room k X.A) (hg : Gl X x) (hm : X.mg x = some (.ref f)) (hk : PySem.W.keepIn X.K (.ref f) = true)
    (hb : Binds X.K fd ps []) (ha : PA X (e :: es) t) (hdb : (x == ("__debug__" : Str)) = false := by decide) (he : starEach (e :: es) X.env = (false, eval e X.env) :: starEach es X.env := by rfl) (hpl : (backTo pos (starEach es X.env)).any (·.1) = false := by rfl) :
    PE X (.Call (.Name x p) (e :: es) [] pos) (tCall sp [] E0 t) := by
  refine ⟨fun pins s σ H Q I h => wpAny_Call_Name_kw (ld_glob I hg hm ?_ hdb)⟩
  refine PySem.W.callWith_K (h₀ := X.base) I.ok.mod.kin hk (thn (ha.run pos pins s σ H _ I h) fun us s1 hh => ?_) he hpl
  obtain ⟨vs, H1, J, r, q⟩ := hh
  rw [List.append_nil] at q
  have hl : us.length = ps.length := r.length.symm.trans (F.len _ _ _ _ q)
  have b := hb s1 us J.kIn (by rw [List.append_nil]; exact hl)
  rw [List.append_nil] at b
  refine ⟨J.kIn, wpAny_call (codeAny_mono (F.run X.A X.stack s1 H1 ⟨us, []⟩ us vs Q E0 hq hr J.env0 b r q) fun r s' c => ?_)⟩
  match r, c with
  | .error _, c => exact False.elim c
  | .ok (.ret u), c => exact J.after c
end
mutual
theorem dp_noDict {K : PySem.W.Frag} {H : Hp} : ∀ (d : PyData) (v : V), Dp K H v d → d.hasDict = false
  | .none, _, _ => rfl
  | .bool _, _, _ => rfl
  | .int _, _, _ => rfl
  | .str _, _, _ => rfl
  | .list ds, _, h => by
    cases h with
    | lst _ b => exact dpAll_noDict ds _ b
  | .tuple ds, _, h => by
    cases h with
    | tup _ b => exact dpAll_noDict ds _ b
  | .dict _, _, h => by cases h
theorem dpAll_noDict {K : PySem.W.Frag} {H : Hp} : ∀ (ds : List PyData) (vs : List V), DpAll K H vs ds → PyData.hasDictAll ds = false
  | [], _, _ => rfl
  | d :: ds, _, h => by
    cases h with
    | cons a b =>
      show (d.hasDict || PyData.hasDictAll ds) = false
      rw [dp_noDict d _ a, dpAll_noDict ds _ b]
      rfl
end
/-- repr(x) -/
def rRepr (K : PySem.W.Frag) : List V → Hp → VK → Prop := fun xs H Q => ∃ (x : V) (d : PyData), xs = [x] ∧ Dp K H x d ∧ d.showable = true ∧ d.depth ≤ 40 ∧ d.shown.length ≤ sizeLine ∧ Q (.str d.shown) H
/-- xs.count(y) over data -/
def rCntD (K : PySem.W.Frag) : V → List V → Hp → VK → Prop := fun x xs H Q => ∃ (p : Addr) (vs : List V) (y : V) (ds : List PyData) (d : PyData), x = .ref p ∧ xs = [y] ∧ SqL K H p vs ∧ DpAll K H vs ds ∧ Dp K H y d ∧ PyData.plainAll ds = true ∧ d.plain = true ∧ d.depth ≤ 10 ∧ Q (.int ((ds.countP fun z => PyData.eqv z d : Nat) : Int)) H
theorem mt_countD {X : Cx} (hu : X.A.units + 64 < cLine) : MtR X "list.count" (rCntD X.K) := by
  intro pins s σ H x xs v us Q I rx rxs h
  obtain ⟨p, vs, y, ds, d, rfl, rfl, hs, hd, hy, h1, h2, h3, q⟩ := h
  cases rx
  cases rxs with
  | @cons _ u _ ur ry rn =>
    cases rn
    obtain ⟨its, rv, pl, hz⟩ := I.list hs
    obtain ⟨as, r1⟩ := Dp.readsAll I ds _ its hd rv
    obtain ⟨bs, r2⟩ := Dp.reads I d _ _ hy ry
    have := Nat.min_le_right (PyData.depthAll ds) d.depth
    exact PySem.SeqAt.count_list_data pl.isList r1 r2 h1 h2 (by omega) ⟨.int _, H, I.tok _, ⟨_, rfl⟩, q⟩
/-- what _law_said asks of a class of refusals -/
structure SaidC (K : PySem.W.Frag) (cH cN cI cA D : Addr) (n : Nat) : Prop where
  t : ExcC K D
  e : PySem.W.exmOne K (.ref D) (.ref cA) = some true
  k0 : PySem.W.kitOne K (.ref D) (.ref cH) = some (decide (n = 0))
  k1 : PySem.W.kitOne K (.ref D) (.ref cN) = some (decide (n = 1))
  k2 : PySem.W.kitOne K (.ref D) (.ref cI) = some (decide (n = 2))
  kv : PySem.W.kitOne K (.ref D) (.type "ValueError") = some true
structure SaidT (mg : Str → Option Value) (cH cN cI cA : Addr) : Prop where
  isi : mg "isinstance" = none
  ve : mg "ValueError" = none
  a : mg "AloneError" = some (.ref cA)
  h : mg "NoHand" = some (.ref cH)
  n : mg "NoKnown" = some (.ref cN)
  i : mg "NoInputs" = some (.ref cI)
def hOf : PyData → Nat
  | .int i => i.toNat
  | _ => 0
def saidW (n : Nat) : Str := if n = 0 then "hand" else "known"
def saidV (d dh : PyData) : V := if within dh 0 1 = true then (match placeD d (hOf dh) with | some j => .int j | none => .str "known") else .str "hand"
def spSaid (K : PySem.W.Frag) : Sp := fun vs H Q _ => ∃ (v hv : V) (d dh : PyData), vs = [v, hv] ∧ Dp K H v d ∧ Dp K H hv dh ∧ ∀ H', Same H H' → Q (saidV d dh) H'
structure PDef (P : Program) (w : World) (K : PySem.W.Frag) (mg : Str → Option Value) (base : Heap) (cH cN : Addr) (f : Addr) (fd : FuncData) : Prop where
  G : FnOk P w K mg base (L2.CX P w) 9 f fd ["known", "hand"] (spPlaceG K cH cN)
  b : Binds K fd ["known", "hand"] []
  k : PySem.W.keepIn K (.ref f) = true
  m : mg "place" = some (.ref f)
def threeD (n : Nat) : List PyData := [.bool (decide (n = 0)), .bool (decide (n = 1)), .bool (decide (n = 2))]
def threeV (n : Nat) : List V := [.bl (decide (n = 0)), .bl (decide (n = 1)), .bl (decide (n = 2))]
theorem lt2 {n : Nat} (h : n < 2) : n = 0 ∨ n = 1 := by omega
theorem three_all {K : PySem.W.Frag} {H : Hp} (n : Nat) : DpAll K H (threeV n) (threeD n) := .cons (.bl _) (.cons (.bl _) (.cons (.bl _) .nil))
theorem three_count {n : Nat} (h : n < 2) : ((threeD n).countP fun z => PyData.eqv z (.bool true)) = 1 := by
  obtain rfl | rfl := lt2 h <;> decide +kernel
theorem three_plain (n : Nat) : PyData.plainAll (threeD n) = true := rfl
theorem three_shaped (n : Nat) : SeqAt.shaped (.list (threeD n)) = true := rfl
theorem three_at {n : Nat} (h : n < 2) : (threeD n)[n]? = some (.bool true) := by
  obtain rfl | rfl := lt2 h <;> rfl
theorem three_no {n : Nat} (h : n < 2) : ∀ (m : Nat) (z' : PyData), m < n → (threeD n)[m]? = some z' → PyData.eqv z' (.bool true) = false := by
  intro m z' hm e
  obtain rfl | rfl := lt2 h
  · omega
  · obtain rfl : m = 0 := by omega
    cases e; decide +kernel
theorem three_word {n : Nat} (h : n < 2) : atI [V.str "hand", V.str "known", V.str "other"] (n : Int) = some (.str (saidW n)) := by
  obtain rfl | rfl := lt2 h <;> rfl
section
variable {P : Program} {w : World} {K : PySem.W.Frag} {mg : Str → Option Value} {base : Heap}
theorem call_repr {X : Cx} (hg : X.A.guards = some []) (hu : X.A.units + 64 < cLine) : CallR X (.builtin "repr") (rRepr X.K) := by
  intro pins s σ H xs us Q I r h
  obtain ⟨x, d, rfl, hx, h1, h2, h3, q⟩ := h
  cases r with
  | @cons _ u _ ur ru rn =>
    cases rn
    cases hx with
    | non =>
      obtain rfl : u = Value.none := ru
      exact PySem.P.repr_of_none ⟨.str _, H, I.tok _, ⟨_, rfl⟩, q⟩
    | bl b =>
      obtain rfl : u = Value.bool b := ru
      exact PySem.P.repr_of_bool ⟨.str _, H, I.tok _, ⟨_, rfl⟩, q⟩
    | int i =>
      obtain ⟨t, rfl⟩ : ∃ t, u = Value.int i t := ru
      exact PySem.P.repr_of_int (of_decide_eq_true h1) ⟨.str _, H, I.tok _, ⟨_, rfl⟩, q⟩
    | str x =>
      obtain ⟨t, rfl⟩ : ∃ t, u = Value.str x t := ru
      exact PySem.P.repr_of_str ⟨.str _, H, I.tok _, ⟨_, rfl⟩, q⟩ h3
    | lst h4 h5 =>
      obtain rfl : u = Value.ref _ := ru
      have hx : Dp X.K H _ _ := .lst h4 h5
      obtain ⟨as, ra⟩ := Dp.reads I _ _ _ hx rfl
      exact PySem.repr_of_reads' ra h1 (fun hd => by rw [dp_noDict _ _ hx] at hd; cases hd) hg (by omega) (fun _ _ z => z) (fun h' u tk hk => ⟨.str _, H, I.kept (t' := tk) hk, ⟨_, rfl⟩, q⟩) h3
    | tup h4 h5 =>
      obtain rfl : u = Value.ref _ := ru
      have hx : Dp X.K H _ _ := .tup h4 h5
      obtain ⟨as, ra⟩ := Dp.reads I _ _ _ hx rfl
      exact PySem.repr_of_reads' ra h1 (fun hd => by rw [dp_noDict _ _ hx] at hd; cases hd) hg (by omega) (fun _ _ z => z) (fun h' u tk hk => ⟨.str _, H, I.kept (t' := tk) hk, ⟨_, rfl⟩, q⟩) h3
abbrev nSaid : List Str := ["_law_thing", "_law_hand", "e", "_law_some"]
theorem scSaid : FnScope nSaid ["_law_thing", "_law_hand"] (defScope sSaid) := ⟨rfl, rfl, rfl, by decide +kernel, rfl, by decide +kernel, by decide +kernel⟩
theorem ok_said {f g cN cH cI cA : Addr} {fd gd : FuncData} (F : Fun K "_law_said" "_law_said" sSaid f fd) (T : SaidT mg cH cN cI cA) (C0 : SaidC K cH cN cI cA cH 0) (C1 : SaidC K cH cN cI cA cN 1) (W : PDef P w K mg base cH cN g gd) : FnOk P w K mg base CX0 10 f fd ["_law_thing", "_law_hand"] (spSaid K) := by
  refine F.ok scSaid (fun vs H Q E h => ?_) (fun cdv A outer s H vs Q E hr h => ?_)
  · obtain ⟨v, hv, d, dh, rfl, _⟩ := h
    rfl
  obtain ⟨v, hv, d, dh, rfl, hk, hkh, q⟩ := h
  have nd := scSaid.nd
  have hu65 : (A.deeper (envOfC "_law_said" (defScope sSaid) s.heap.objs.size f cdv)).units + 65 < cLine := by have := hr.un; omega
  refine ⟨_, pss_one (ps_try_first (i := 2) (ts := fun a cls o D σ H' => σ = [some v, some hv, some (.ref a), none] ∧ ∃ (C : Addr) (n : Nat), n < 2 ∧ cls = .ref C ∧ o = none ∧ SaidC K cH cN cI cA C n ∧ ∀ H'', Same H' H'' → D.rt (.str (saidW n)) H'') rfl rfl nd rfl rfl ⟨rfl, by decide, .inl T.a⟩
      (fun W' pn xe tk _ => pss_one (ps_ret (pe_callS W.G hr rfl W.m W.k W.b (fun σ => passAt tk σ) (pa_cons (pv 0) (pa_cons (pv 1) pa_nil)))))
      (fun a oe cls o pn hz hf => ?S)), ?_⟩
  case S =>
    refine pss_read fun pins s' σ H' D I h' => ?_
    obtain ⟨rfl, C, n, hn, rfl, rfl, SC, h⟩ := h'
    have isi := call_isE2 (X := (cxOf CX0 P w K mg base nSaid "_law_said" (defScope sSaid) f cdv A outer s H E)) (a := a) (pn := pn) hz hf
    refine ⟨_, pss_cons (ps_set (i := 3) nd rfl (Or.inl rfl) (pe_lst
          (pa_cons (pe_callB isi (by rfl) T.isi boot_isinstance (pa_cons (pv 2) (pa_cons (pe_glob (v := .ref cH) rfl T.h rfl) pa_nil)))
          (pa_cons (pe_callB isi (by rfl) T.isi boot_isinstance (pa_cons (pv 2) (pa_cons (pe_glob (v := .ref cN) rfl T.n rfl) pa_nil)))
          (pa_cons (pe_callB isi (by rfl) T.isi boot_isinstance (pa_cons (pv 2) (pa_cons (pe_glob (v := .ref cI) rfl T.i rfl) pa_nil))) pa_nil)))))
        (pss_cons (ps_if (PW.pt (pw_or (pt_cmpR op_ne (pe_bm PySem.F.plainAttrs_list PySem.F.slot_list_count PySem.F.type_list_count (mt_countD (Nat.lt_of_succ_lt hu65)) (pv 3) (pa_cons pe_bl pa_nil)) pe_int (nomark _))
            (pw_or1 (pt_not (pt_val (pe_callB isi (by rfl) T.isi boot_isinstance (pa_cons (pv 2) (pa_cons (pe_bltn (v := .ty "ValueError") (by rfl) T.ve (by decide +kernel) rfl) pa_nil)))))))) (pss_one (ps_ret pe_str)) pss_nil)
        (pss_one (ps_ret (pe_ix ix_list (pe_lst (pa_cons pe_str (pa_cons pe_str (pa_cons pe_str pa_nil)))) (pe_bm PySem.F.plainAttrs_list PySem.F.slot_list_index PySem.F.type_list_index (mt_indexD (hu65)) (pv 3) (pa_cons pe_bl pa_nil)) (fun _ _ => rfl))))), ?_⟩
    refine ⟨_, rfl, C, rfl, rfl, SC.t, .ref cH, .ref cH, _, rfl, (fun u h => h), SC.k0, _, rfl, C, rfl, rfl, SC.t, .ref cN, .ref cN, _, rfl, (fun u h => h), SC.k1, _, rfl, C, rfl, rfl, SC.t, .ref cI, .ref cI, _, rfl, (fun u h => h), SC.k2, (by show 3 ≤ sizeLine; decide), fun l hl => ?_⟩
    have e1 := upd_same (H := H') (a := l) (o := .lst (threeV n))
    refine ⟨_, rfl, .inl ⟨rfl, _, SqL.of e1⟩, l, threeV n, .bl true, threeD n, .bool true, rfl, rfl, SqL.of e1, three_all n, .bl true, three_plain n, rfl, (by decide), ?_⟩
    rw [three_count hn]
    refine ⟨rfl, _, rfl, iteF ⟨_, rfl, C, rfl, rfl, SC.t, .ty "ValueError", _, true, rfl, (fun u h => h), SC.kv, true, rfl, iteF ?_⟩⟩
    refine ⟨(by show 3 ≤ sizeLine; decide), fun l2 hl2 => ?_⟩
    have s1 := same_new hl (.lst (threeV n))
    have s2 := same_new hl2 (.lst [V.str "hand", V.str "known", V.str "other"])
    have e2 := s2 _ _ e1
    refine ⟨_, rfl, .inl ⟨rfl, _, SqL.of e2⟩, l, .bl true, .bool true, threeD n, n, .bool true, rfl, rfl, .lst (SqL.of e2) (three_all n), .bl true, three_shaped n, rfl, three_at hn, (by decide +kernel), three_no hn, ?_⟩
    exact ⟨l2, _, _, _, rfl, rfl, SqL.of upd_same, three_word hn, h _ (s1.trans s2)⟩
  refine ⟨_, rfl, _, rfl, v, hv, d, dh, rfl, hk, hkh, fun cw H1 s1 => ?_, fun h e hh => ⟨fun n1 H1 s1 => ?_, fun j n1 H1 s1 => ?_⟩⟩
  · refine ⟨C0.e, fun a na => ⟨rfl, cH, 0, by decide, rfl, rfl, C0, fun H2 s2 => ?_⟩⟩
    have := q _ (s1.trans s2)
    unfold saidV at this
    rw [cw, if_neg (by decide)] at this
    exact this
  · refine ⟨C1.e, fun a na => ⟨rfl, cN, 1, by decide, rfl, rfl, C1, fun H2 s2 => ?_⟩⟩
    have := q _ (s1.trans s2)
    unfold saidV at this
    subst e
    rw [show within (.int (h : Int)) 0 1 = true from decide_eq_true (by omega), if_pos rfl, show hOf (.int (h : Int)) = h from rfl, n1] at this
    exact this
  · have := q _ s1
    unfold saidV at this
    subst e
    rw [show within (.int (h : Int)) 0 1 = true from decide_eq_true (by omega), if_pos rfl, show hOf (.int (h : Int)) = h from rfl, n1] at this
    exact this
end
end TA

set_option Elab.async false
set_option maxRecDepth 100000
set_option maxHeartbeats 4000000
namespace TA
open PySem PySem.Spec L2 PyProof.Rows
set_option linter.unusedVariables false
/-! data that a law makes: how many parts, which leaves -/
mutual
def nds : PyData → Nat
  | .list ds => 1 + ndsAll ds
  | .tuple ds => 1 + ndsAll ds
  | .none | .bool _ | .int _ | .str _ | .dict _ => 1
def ndsAll : List PyData → Nat
  | [] => 0
  | d :: ds => nds d + ndsAll ds
end
mutual
def lf : PyData → Bool
  | .none | .bool _ => true
  | .int i => decide (-1 ≤ i ∧ i ≤ 3)
  | .str x => x == "1"
  | .list ds => !ds.isEmpty && lfAll ds
  | .tuple ds => (!ds.isEmpty && decide (ds.length ≤ 3)) && lfAll ds
  | .dict _ => false
def lfAll : List PyData → Bool
  | [] => true
  | d :: ds => lf d && lfAll ds
end
mutual
def hasI (x : Int) : PyData → Bool
  | .int i => decide (i = x)
  | .list ds => hasIAll x ds
  | .tuple ds => hasIAll x ds
  | .none | .bool _ | .str _ | .dict _ => false
def hasIAll (x : Int) : List PyData → Bool
  | [] => false
  | d :: ds => hasI x d || hasIAll x ds
end
mutual
def plT : PyData → Bool
  | .none | .int _ => true
  | .tuple ds => plTAll ds
  | .list _ | .bool _ | .str _ | .dict _ => false
def plTAll : List PyData → Bool
  | [] => true
  | d :: ds => plT d && plTAll ds
end
theorem leaf_int {i : Int} (h : -1 ≤ i ∧ i ≤ 3) : (PyData.int i).showable = true ∧ (PyData.int i).leavesShort 64 = true ∧ (PyData.int i).weight ≤ 3 := by
  obtain rfl | rfl | rfl | rfl | rfl : i = -1 ∨ i = 0 ∨ i = 1 ∨ i = 2 ∨ i = 3 := by omega
  all_goals exact ⟨by decide +kernel, by decide +kernel, by decide +kernel⟩
theorem nds_pos (d : PyData) : 1 ≤ nds d := by
  cases d <;> simp only [nds] <;> omega
structure Nic (d : PyData) : Prop where
  c : d.canLay0 = true
  s : d.showable = true
  l : d.leavesShort 64 = true
  w : d.weight + 1 ≤ 4 * nds d
  p : d.depth ≤ nds d
mutual
theorem lf_nic : ∀ d : PyData, lf d = true → Nic d
  | .none, _ => ⟨rfl, rfl, rfl, (by show 0 + 1 ≤ 4; decide), by simp [PyData.depth, nds]⟩
  | .bool _, _ => ⟨rfl, rfl, rfl, (by show 0 + 1 ≤ 4; decide), by simp [PyData.depth, nds]⟩
  | .int i, h => by
    have h' : -1 ≤ i ∧ i ≤ 3 := of_decide_eq_true h
    obtain ⟨a, b, c⟩ := leaf_int h'
    exact ⟨rfl, a, b, (by show _ + 1 ≤ 4 * 1; omega), by simp [PyData.depth, nds]⟩
  | .str x, h => by
    have h' : x = "1" := by simpa [lf] using h
    subst h'
    exact ⟨by decide +kernel, by decide +kernel, by decide +kernel, by decide +kernel, by simp [PyData.depth, nds]⟩
  | .list ds, h => by
    have h' : lfAll ds = true := (Bool.and_eq_true_iff.mp (show (!ds.isEmpty && lfAll ds) = true from h)).2
    obtain ⟨a, b, c, d, e⟩ := lf_nicAll ds h'
    exact ⟨a, b, c, (by show PyData.weightAll ds + 1 ≤ 4 * (1 + ndsAll ds); omega), (by show PyData.depthAll ds + 1 ≤ 1 + ndsAll ds; omega)⟩
  | .tuple ds, h => by
    have h' : lfAll ds = true := (Bool.and_eq_true_iff.mp (show ((!ds.isEmpty && decide (ds.length ≤ 3)) && lfAll ds) = true from h)).2
    obtain ⟨a, b, c, d, e⟩ := lf_nicAll ds h'
    exact ⟨a, b, c, (by show PyData.weightAll ds + 1 ≤ 4 * (1 + ndsAll ds); omega), (by show PyData.depthAll ds + 1 ≤ 1 + ndsAll ds; omega)⟩
  | .dict _, h => by cases h
theorem lf_nicAll : ∀ ds : List PyData, lfAll ds = true → PyData.canLayAll0 ds = true ∧ PyData.showableAll ds = true ∧ PyData.leavesShortAll 64 ds = true ∧ PyData.weightAll ds ≤ 4 * ndsAll ds ∧ PyData.depthAll ds ≤ ndsAll ds
  | [], _ => ⟨rfl, rfl, rfl, Nat.le_refl _, Nat.zero_le _⟩
  | d :: ds, h => by
    obtain ⟨h1, h2⟩ := Bool.and_eq_true_iff.mp (show (lf d && lfAll ds) = true from h)
    have q := lf_nic d h1
    obtain ⟨a, b, c, e, f⟩ := lf_nicAll ds h2
    have := q.w
    have := q.p
    refine ⟨?_, ?_, ?_, ?_, ?_⟩
    · show (d.canLay0 && PyData.canLayAll0 ds) = true
      rw [q.c, a]; rfl
    · show (d.showable && PyData.showableAll ds) = true
      rw [q.s, b]; rfl
    · show (d.leavesShort 64 && PyData.leavesShortAll 64 ds) = true
      rw [q.l, c]; rfl
    · have := nds_pos d
      show d.weight + 1 + PyData.weightAll ds ≤ 4 * (nds d + ndsAll ds)
      omega
    · show max d.depth (PyData.depthAll ds) ≤ nds d + ndsAll ds
      omega
end
theorem lf_shaped {d : PyData} (h : lf d = true) (n : nds d ≤ 62) : SeqAt.shaped d = true := by
  have q := lf_nic d h
  have := q.p
  show (d.canLay0 && decide (d.depth ≤ 64)) = true
  rw [q.c, decide_eq_true (by omega)]
  rfl
theorem lfAll_shaped {ds : List PyData} (h : lfAll ds = true) (n : ndsAll ds ≤ 62) : SeqAt.shaped (.list ds) = true := by
  obtain ⟨a, b, c, d, e⟩ := lf_nicAll ds h
  show (PyData.canLayAll0 ds && decide (PyData.depthAll ds + 1 ≤ 64)) = true
  rw [a, decide_eq_true (by omega)]
  rfl
theorem lf_shown {d : PyData} (h : lf d = true) (n : nds d ≤ 1000) : d.shown.length ≤ sizeLine := by
  have q := lf_nic d h
  have := PyData.shown_le 64 (by decide) _ q.l
  have := q.w
  rw [sizeLine_eq]
  omega
mutual
theorem eqv_pl : ∀ d e : PyData, plT d = true → plT e = true → PyData.eqv d e = true → d = e
  | .none, e, _, h, q => by
    cases e with
    | none => rfl
    | _ => first | cases q | cases h
  | .int i, e, _, h, q => by
    cases e with
    | int j =>
      have : i = j := by simpa [PyData.eqv] using q
      rw [this]
    | _ => first | cases q | cases h
  | .tuple ds, e, g, h, q => by
    cases e with
    | tuple es => rw [eqv_plAll ds es g h q]
    | _ => first | cases q | cases h
  | .list _, _, g, _, _ => by cases g
  | .bool _, _, g, _, _ => by cases g
  | .str _, _, g, _, _ => by cases g
  | .dict _, _, g, _, _ => by cases g
theorem eqv_plAll : ∀ ds es : List PyData, plTAll ds = true → plTAll es = true → PyData.eqvAll ds es = true → ds = es
  | [], [], _, _, _ => rfl
  | [], _ :: _, _, _, q => by cases q
  | _ :: _, [], _, _, q => by cases q
  | d :: ds, e :: es, g, h, q => by
    obtain ⟨g1, g2⟩ := Bool.and_eq_true_iff.mp (show (plT d && plTAll ds) = true from g)
    obtain ⟨h1, h2⟩ := Bool.and_eq_true_iff.mp (show (plT e && plTAll es) = true from h)
    obtain ⟨q1, q2⟩ := Bool.and_eq_true_iff.mp (show (PyData.eqv d e && PyData.eqvAll ds es) = true from q)
    rw [eqv_pl d e g1 h1 q1, eqv_plAll ds es g2 h2 q2]
end
theorem kn_pl {H : Hp} {v : V} {d : PyData} (h : Kn H v d) : plT d = true := by
  induction h with
  | int i => rfl
  | non => rfl
  | @tup a x y d e _ _ _ h1 h2 =>
    show (plT d && (plT e && true)) = true
    rw [h1, h2]; rfl
/-! down the first parts -/
def lefts : Nat → PyData → Nat × PyData
  | n + 1, .tuple (d :: _) => ((lefts n d).1 + 1, (lefts n d).2)
  | _, d => (0, d)
theorem stand_lefts : ∀ {r : Nat} {d : PyData} {h : Nat} {u : Stands}, stand r d h = some u → ∀ n, r ≤ n → ∃ i : Int, 0 ≤ i ∧ lefts n d = (r, .int i)
  | 0, d, h, u, e, n, _ => by
    obtain ⟨i, rfl, hi, _⟩ := stand0 e
    exact ⟨i, hi, by cases n <;> rfl⟩
  | r + 1, d, h, u, e, n, hn => by
    obtain ⟨x, y, u0, rfl, e0, _⟩ := standS e
    obtain ⟨n, rfl⟩ : ∃ m, n = m + 1 := ⟨n - 1, by omega⟩
    obtain ⟨i, hi, q⟩ := stand_lefts e0 n (by omega)
    refine ⟨i, hi, ?_⟩
    show ((lefts n x).1 + 1, (lefts n x).2) = _
    rw [q]
theorem stand_pl : ∀ {r : Nat} {d : PyData} {h : Nat} {u : Stands}, stand r d h = some u → plT d = true
  | 0, d, h, u, e => by
    obtain ⟨i, rfl, _⟩ := stand0 e
    rfl
  | r + 1, d, h, u, e => by
    obtain ⟨x, y, u0, rfl, e0, e1⟩ := standS e
    show (plT x && (plT y && true)) = true
    rw [stand_pl e0]
    rcases e1 with ⟨yn, _⟩ | ⟨_, v, ev, _⟩
    · cases y <;> first | rfl | cases yn
    · rw [stand_pl ev]; rfl
/-! what stands behind at most two rounds -/
def ii (i : Int) : PyData := .int i
def pp (x y : PyData) : PyData := .tuple [x, y]
theorem isN_none {y : PyData} (h : isN y = true) : y = .none := by
  cases y <;> first | rfl | cases h
def at0 (h : Nat) (i : Int) : Stands := if h = 0 then (0, some i, none) else (1, none, some i)
theorem shape0 {d : PyData} {h : Nat} {u : Stands} (e : stand 0 d h = some u) : ∃ i : Int, 0 ≤ i ∧ d = ii i ∧ u = at0 h i := by
  obtain ⟨i, rfl, hi, rfl⟩ := stand0 e
  exact ⟨i, hi, rfl, rfl⟩
def at1n (h : Nat) (i : Int) : Stands := if h = 0 then (0, some i, none) else (3, none, some i)
def at1 (h : Nat) (i j : Int) : Stands := if h = 0 then (2, some i, some j) else (1, some j, some i)
theorem shape1 {d : PyData} {h : Nat} {u : Stands} (hh : h < 2) (e : stand 1 d h = some u) : ∃ i : Int, 0 ≤ i ∧ ((d = pp (ii i) .none ∧ u = at1n h i) ∨ ∃ j : Int, 0 ≤ j ∧ d = pp (ii i) (ii j) ∧ u = at1 h i j) := by
  obtain ⟨x, y, u0, rfl, e0, e1⟩ := standS e
  obtain ⟨i, hi, rfl, rfl⟩ := shape0 e0
  refine ⟨i, hi, ?_⟩
  rcases e1 with ⟨yn, rfl⟩ | ⟨_, v, ev, em⟩
  · rw [isN_none yn]
    refine .inl ⟨rfl, ?_⟩
    obtain rfl | rfl : h = 0 ∨ h = 1 := by omega
    · rfl
    · rfl
  · obtain ⟨j, hj, rfl, rfl⟩ := shape0 ev
    refine .inr ⟨j, hj, rfl, ?_⟩
    obtain ⟨_, _, _, rfl⟩ := metD_some em
    obtain rfl | rfl : h = 0 ∨ h = 1 := by omega
    · rfl
    · rfl
theorem shape2 {d : PyData} {h : Nat} {u : Stands} (hh : h < 2) (e : stand 2 d h = some u) : ∃ i j : Int, 0 ≤ i ∧ 0 ≤ j ∧
    (d = pp (pp (ii i) .none) .none ∨ d = pp (pp (ii i) .none) (pp (ii j) (ii i)) ∨ d = pp (pp (ii i) (ii j)) .none ∨ d = pp (pp (ii i) (ii j)) (pp (ii j) .none) ∨ d = pp (pp (ii i) (ii j)) (pp (ii j) (ii i))) := by
  obtain ⟨x, y, u0, rfl, e0, e1⟩ := standS e
  obtain ⟨i, hi, e0⟩ := shape1 hh e0
  rcases e1 with ⟨yn, rfl⟩ | ⟨_, v, ev, em⟩
  · rw [isN_none yn]
    rcases e0 with ⟨rfl, _⟩ | ⟨j, hj, rfl, _⟩
    · exact ⟨i, 0, hi, Int.le_refl 0, .inl rfl⟩
    · exact ⟨i, j, hi, hj, .inr (.inr (.inl rfl))⟩
  · obtain ⟨j, hj, ev⟩ := shape1 (show 1 - h < 2 by omega) ev
    obtain ⟨g1, g2, g3, _⟩ := metD_some em
    rcases e0 with ⟨rfl, rfl⟩ | ⟨j0, hj0, rfl, rfl⟩ <;> rcases ev with ⟨rfl, rfl⟩ | ⟨i0, hi0, rfl, rfl⟩
    · exfalso
      obtain rfl | rfl : h = 0 ∨ h = 1 := by omega
      · exact absurd g1 (by show ¬ ((3 : Int) - 0).natAbs = 1; decide)
      · exact absurd g1 (by show ¬ ((0 : Int) - 3).natAbs = 1; decide)
    · obtain rfl | rfl : h = 0 ∨ h = 1 := by omega
      · have : i = i0 := of_decide_eq_true g2
        subst this
        exact ⟨i, j, hi, hj, .inr (.inl rfl)⟩
      · have : i = i0 := of_decide_eq_true g3
        subst this
        exact ⟨i, j, hi, hj, .inr (.inl rfl)⟩
    · obtain rfl | rfl : h = 0 ∨ h = 1 := by omega
      · have : j0 = j := of_decide_eq_true g3
        subst this
        exact ⟨i, j0, hi, hj, .inr (.inr (.inr (.inl rfl)))⟩
      · have : j0 = j := of_decide_eq_true g2
        subst this
        exact ⟨i, j0, hi, hj, .inr (.inr (.inr (.inl rfl)))⟩
    · obtain rfl | rfl : h = 0 ∨ h = 1 := by omega
      · have a1 : i = i0 := of_decide_eq_true g2
        have a2 : j0 = j := of_decide_eq_true g3
        subst a1 a2
        exact ⟨i, j0, hi, hj, .inr (.inr (.inr (.inr rfl)))⟩
      · have a1 : i = i0 := of_decide_eq_true g3
        have a2 : j0 = j := of_decide_eq_true g2
        subst a1 a2
        exact ⟨i, j0, hi, hj, .inr (.inr (.inr (.inr rfl)))⟩
end TA

set_option Elab.async false
set_option maxRecDepth 100000
set_option maxHeartbeats 400000
namespace TA
open PySem PySem.Spec L2 PyProof.Rows
set_option linter.unusedVariables false
/-- behind a weaving: what hand h knows, its own input i and the other one j -/
def kn (h d : Nat) (i j : Int) (hs : List Nat) : PyData := ((M0 (if h = 0 then i else j) (if h = 0 then j else i)).run hs).res d h
def rowN (d : Nat) (hs : List Nat) : Bool := decide (hs.map (fun n : Nat => (n : Int)) ∈ lvl (2 * d) (4 * d))
/-- what stands behind r ≤ 2 rounds comes in some weaving, with any number that stands in it -/
theorem comes_of {r h : Nat} {d : PyData} {u : Stands} (hr : r ≤ 2) (hh : h < 2) (e : stand r d h = some u) : ∃ (i j : Int) (hs : List Nat), 0 ≤ i ∧ 0 ≤ j ∧ rowN r hs = true ∧ kn h r i j hs = d ∧ lefts 60 d = (r, .int i) ∧ hasI i d = true ∧ (∀ x, hasI x d = true → x = i ∨ x = j) ∧
    (hasI j d = true ∨ ∀ j', kn h r i j' hs = d) := by
  obtain rfl | rfl | rfl : r = 0 ∨ r = 1 ∨ r = 2 := by omega
  · obtain ⟨i, hi, rfl, _⟩ := shape0 e
    refine ⟨i, 0, [], hi, Int.le_refl 0, by decide +kernel, ?_, by kernel_rfl, decide_eq_true rfl, fun x hx => .inl (of_decide_eq_true hx).symm, .inr fun j' => ?_⟩
    · obtain rfl | rfl : h = 0 ∨ h = 1 := by omega
      · rfl
      · rfl
    · obtain rfl | rfl : h = 0 ∨ h = 1 := by omega
      · rfl
      · rfl
  · obtain ⟨i, hi, q⟩ := shape1 hh e
    rcases q with ⟨rfl, _⟩ | ⟨j, hj, rfl, _⟩
    · obtain rfl | rfl : h = 0 ∨ h = 1 := by omega
      · exact ⟨i, 0, [0, 0, 1, 1], hi, Int.le_refl 0, by decide +kernel, by kernel_rfl, by kernel_rfl, (by simp [pp, ii, hasI, hasIAll]), (fun x hx => by simp [pp, ii, hasI, hasIAll] at hx; exact .inl hx.symm), .inr fun j' => by kernel_rfl⟩
      · exact ⟨i, 0, [1, 1, 0, 0], hi, Int.le_refl 0, by decide +kernel, by kernel_rfl, by kernel_rfl, (by simp [pp, ii, hasI, hasIAll]), (fun x hx => by simp [pp, ii, hasI, hasIAll] at hx; exact .inl hx.symm), .inr fun j' => by kernel_rfl⟩
    · obtain rfl | rfl : h = 0 ∨ h = 1 := by omega
      · exact ⟨i, j, [1, 1, 0, 0], hi, hj, by decide +kernel, by kernel_rfl, by kernel_rfl, (by simp [pp, ii, hasI, hasIAll]), (fun x hx => by simp [pp, ii, hasI, hasIAll] at hx; omega), .inl (by simp [pp, ii, hasI, hasIAll])⟩
      · exact ⟨i, j, [0, 0, 1, 1], hi, hj, by decide +kernel, by kernel_rfl, by kernel_rfl, (by simp [pp, ii, hasI, hasIAll]), (fun x hx => by simp [pp, ii, hasI, hasIAll] at hx; omega), .inl (by simp [pp, ii, hasI, hasIAll])⟩
  · obtain ⟨i, j, hi, hj, q⟩ := shape2 hh e
    rcases q with rfl | rfl | rfl | rfl | rfl
    · obtain rfl | rfl : h = 0 ∨ h = 1 := by omega
      · exact ⟨i, 0, [0, 0, 0, 0, 1, 1, 1, 1], hi, Int.le_refl 0, by decide +kernel, by kernel_rfl, by kernel_rfl, (by simp [pp, ii, hasI, hasIAll]), (fun x hx => by simp [pp, ii, hasI, hasIAll] at hx; exact .inl hx.symm), .inr fun j' => by kernel_rfl⟩
      · exact ⟨i, 0, [1, 1, 1, 1, 0, 0, 0, 0], hi, Int.le_refl 0, by decide +kernel, by kernel_rfl, by kernel_rfl, (by simp [pp, ii, hasI, hasIAll]), (fun x hx => by simp [pp, ii, hasI, hasIAll] at hx; exact .inl hx.symm), .inr fun j' => by kernel_rfl⟩
    · obtain rfl | rfl : h = 0 ∨ h = 1 := by omega
      · exact ⟨i, j, [0, 0, 1, 1, 1, 0, 0, 1], hi, hj, by decide +kernel, by kernel_rfl, by kernel_rfl, (by simp [pp, ii, hasI, hasIAll]), (fun x hx => by simp [pp, ii, hasI, hasIAll] at hx; omega), .inl (by simp [pp, ii, hasI, hasIAll])⟩
      · exact ⟨i, j, [1, 1, 0, 0, 0, 1, 1, 0], hi, hj, by decide +kernel, by kernel_rfl, by kernel_rfl, (by simp [pp, ii, hasI, hasIAll]), (fun x hx => by simp [pp, ii, hasI, hasIAll] at hx; omega), .inl (by simp [pp, ii, hasI, hasIAll])⟩
    · obtain rfl | rfl : h = 0 ∨ h = 1 := by omega
      · exact ⟨i, j, [1, 0, 0, 0, 0, 1, 1, 1], hi, hj, by decide +kernel, by kernel_rfl, by kernel_rfl, (by simp [pp, ii, hasI, hasIAll]), (fun x hx => by simp [pp, ii, hasI, hasIAll] at hx; omega), .inl (by simp [pp, ii, hasI, hasIAll])⟩
      · exact ⟨i, j, [0, 1, 1, 1, 1, 0, 0, 0], hi, hj, by decide +kernel, by kernel_rfl, by kernel_rfl, (by simp [pp, ii, hasI, hasIAll]), (fun x hx => by simp [pp, ii, hasI, hasIAll] at hx; omega), .inl (by simp [pp, ii, hasI, hasIAll])⟩
    · obtain rfl | rfl : h = 0 ∨ h = 1 := by omega
      · exact ⟨i, j, [1, 1, 1, 1, 0, 0, 0, 0], hi, hj, by decide +kernel, by kernel_rfl, by kernel_rfl, (by simp [pp, ii, hasI, hasIAll]), (fun x hx => by simp [pp, ii, hasI, hasIAll] at hx; omega), .inl (by simp [pp, ii, hasI, hasIAll])⟩
      · exact ⟨i, j, [0, 0, 0, 0, 1, 1, 1, 1], hi, hj, by decide +kernel, by kernel_rfl, by kernel_rfl, (by simp [pp, ii, hasI, hasIAll]), (fun x hx => by simp [pp, ii, hasI, hasIAll] at hx; omega), .inl (by simp [pp, ii, hasI, hasIAll])⟩
    · obtain rfl | rfl : h = 0 ∨ h = 1 := by omega
      · exact ⟨i, j, [0, 1, 0, 1, 0, 1, 0, 1], hi, hj, by decide +kernel, by kernel_rfl, by kernel_rfl, (by simp [pp, ii, hasI, hasIAll]), (fun x hx => by simp [pp, ii, hasI, hasIAll] at hx; omega), .inl (by simp [pp, ii, hasI, hasIAll])⟩
      · exact ⟨i, j, [0, 1, 0, 1, 0, 1, 0, 1], hi, hj, by decide +kernel, by kernel_rfl, by kernel_rfl, (by simp [pp, ii, hasI, hasIAll]), (fun x hx => by simp [pp, ii, hasI, hasIAll] at hx; omega), .inl (by simp [pp, ii, hasI, hasIAll])⟩
end TA

set_option Elab.async false
set_option maxRecDepth 100000
set_option maxHeartbeats 4000000
namespace TA
open PySem PySem.Spec L2 PyProof.Rows
set_option linter.unusedVariables false
theorem dpAll_app {K : PySem.W.Frag} {H : Hp} : ∀ {vs ws : List V} {ds es : List PyData}, DpAll K H vs ds → DpAll K H ws es → DpAll K H (vs ++ ws) (ds ++ es)
  | _, _, _, _, .nil, q => q
  | _, _, _, _, .cons a b, q => .cons a (dpAll_app b q)
theorem dpAll_unsnoc {K : PySem.W.Frag} {H : Hp} {d : PyData} : ∀ {ds : List PyData} {vs : List V}, DpAll K H vs (ds ++ [d]) → ∃ vs0 v, vs = vs0 ++ [v] ∧ DpAll K H vs0 ds ∧ Dp K H v d
  | [], _, h => by
    cases h with
    | cons a b => cases b; exact ⟨[], _, rfl, .nil, a⟩
  | e :: ds, _, h => by
    cases h with
    | cons a b =>
      obtain ⟨vs0, v, rfl, k1, k2⟩ := dpAll_unsnoc b
      exact ⟨_ :: vs0, v, rfl, .cons a k1, k2⟩
theorem at_zero (v : V) (vs : List V) : atI (v :: vs) 0 = some v := by
  have h : (0 : Int) < ((vs.length + 1 : Nat) : Int) := by omega
  simp [atI, ixN]
def isSeqD : PyData → Bool
  | .list _ => true
  | .tuple _ => true
  | _ => false
def partsD : PyData → List PyData
  | .list ds => ds
  | .tuple ds => ds
  | _ => []
theorem dp_seq {K : PySem.W.Frag} {H : Hp} {v : V} {d : PyData} (h : Dp K H v d) (c : isSeqD d = true) : ∃ a xs, v = .ref a ∧ (SqL K H a xs ∨ SqT K H a xs) ∧ DpAll K H xs (partsD d) := by
  cases h with
  | lst a b => exact ⟨_, _, rfl, .inl a, b⟩
  | tup a b => exact ⟨_, _, rfl, .inr a, b⟩
  | _ => cases c
theorem kit_seq (d : PyData) {K : PySem.W.Frag} : PySem.W.kitAny K (.type (tyN d)) [.type "tuple", .type "list"] = some (isSeqD d) := by
  cases d with
  | none => exact kitAny_cons (kit_ty (a := "NoneType") (b := "tuple") (r := false) (by decide +kernel)) (fun _ => kitAny_cons (kit_ty (a := "NoneType") (b := "list") (r := false) (by decide +kernel)) (fun _ => kitAny_nil) (fun e => by cases e)) (fun e => by cases e)
  | bool b => exact kitAny_cons (kit_ty (a := "bool") (b := "tuple") (r := false) (by decide +kernel)) (fun _ => kitAny_cons (kit_ty (a := "bool") (b := "list") (r := false) (by decide +kernel)) (fun _ => kitAny_nil) (fun e => by cases e)) (fun e => by cases e)
  | int b => exact kitAny_cons (kit_ty (a := "int") (b := "tuple") (r := false) (by decide +kernel)) (fun _ => kitAny_cons (kit_ty (a := "int") (b := "list") (r := false) (by decide +kernel)) (fun _ => kitAny_nil) (fun e => by cases e)) (fun e => by cases e)
  | str b => exact kitAny_cons (kit_ty (a := "str") (b := "tuple") (r := false) (by decide +kernel)) (fun _ => kitAny_cons (kit_ty (a := "str") (b := "list") (r := false) (by decide +kernel)) (fun _ => kitAny_nil) (fun e => by cases e)) (fun e => by cases e)
  | dict b => exact kitAny_cons (kit_ty (a := "dict") (b := "tuple") (r := false) (by decide +kernel)) (fun _ => kitAny_cons (kit_ty (a := "dict") (b := "list") (r := false) (by decide +kernel)) (fun _ => kitAny_nil) (fun e => by cases e)) (fun e => by cases e)
  | list b => exact kitAny_cons (kit_ty (a := "list") (b := "tuple") (r := false) (by decide +kernel)) (fun _ => kitAny_cons (kit_ty (a := "list") (b := "list") (r := true) (by decide +kernel)) (fun e => by cases e) (fun _ => rfl)) (fun e => by cases e)
  | tuple b => exact kitAny_cons (kit_ty (a := "tuple") (b := "tuple") (r := true) (by decide +kernel)) (fun e => by cases e) (fun _ => rfl)
theorem ndsAll_app : ∀ as bs, ndsAll (as ++ bs) = ndsAll as + ndsAll bs
  | [], bs => by simp [ndsAll]
  | a :: as, bs => by
    show nds a + ndsAll (as ++ bs) = nds a + ndsAll as + ndsAll bs
    rw [ndsAll_app as bs]; omega
theorem ndsAll_len : ∀ ds, ds.length ≤ ndsAll ds
  | [] => Nat.le_refl _
  | d :: ds => by
    have := ndsAll_len ds
    have := nds_pos d
    show ds.length + 1 ≤ nds d + ndsAll ds
    omega
theorem lfAll_app : ∀ as bs, lfAll (as ++ bs) = (lfAll as && lfAll bs)
  | [], bs => rfl
  | a :: as, bs => by
    show (lf a && lfAll (as ++ bs)) = ((lf a && lfAll as) && lfAll bs)
    rw [lfAll_app as bs, Bool.and_assoc]
theorem hasAll_app (x : Int) : ∀ as bs, hasIAll x (as ++ bs) = (hasIAll x as || hasIAll x bs)
  | [], bs => rfl
  | a :: as, bs => by
    show (hasI x a || hasIAll x (as ++ bs)) = ((hasI x a || hasIAll x as) || hasIAll x bs)
    rw [hasAll_app x as bs, Bool.or_assoc]
theorem plAll_app : ∀ as bs, plTAll (as ++ bs) = (plTAll as && plTAll bs)
  | [], bs => rfl
  | a :: as, bs => by
    show (plT a && plTAll (as ++ bs)) = ((plT a && plTAll as) && plTAll bs)
    rw [plAll_app as bs, Bool.and_assoc]
theorem seq_parts {d : PyData} (c : isSeqD d = true) : nds d = 1 + ndsAll (partsD d) ∧ (lf d = true → lfAll (partsD d) = true) ∧ ∀ x, hasI x d = hasIAll x (partsD d) := by
  cases d with
  | list ds => exact ⟨by simp [nds, partsD], fun h => (Bool.and_eq_true_iff.mp (show (!ds.isEmpty && lfAll ds) = true from h)).2, fun x => by simp [hasI, partsD]⟩
  | tuple ds => exact ⟨by simp [nds, partsD], fun h => (Bool.and_eq_true_iff.mp (show ((!ds.isEmpty && decide (ds.length ≤ 3)) && lfAll ds) = true from h)).2, fun x => by simp [hasI, partsD]⟩
  | _ => cases c
theorem hasI_leaf {d : PyData} (c : isSeqD d = false) (x : Int) : hasI x d = true → d = .int x := by
  cases d with
  | int i => intro h; rw [show i = x from of_decide_eq_true h]
  | list _ => cases c
  | tuple _ => cases c
  | _ => intro h; cases h
def spNumbers (K : PySem.W.Frag) : Sp := fun vs H Q _ => ∃ (v : V) (t : PyData), vs = [v] ∧ Dp K H v t ∧ lf t = true ∧ nds t ≤ 60 ∧ ∀ (p : Addr) (fs : List Int) (H' : Hp), Same H H' → H' p = some (.lst (fs.map V.int)) → fs ≠ [] → fs.length ≤ 4 → (∀ x ∈ fs, 0 ≤ x) →
  (∀ i j : Int, (∀ x, hasI x t = true → x = i ∨ x = j) → ∀ x, 0 ≤ x → hasI x t = true → x ∈ fs) → Q (.ref p) H'
def spPlainG (K : PySem.W.Frag) : Sp := fun vs H Q _ => ∃ (v : V) (t : PyData), vs = [v] ∧ Dp K H v t ∧ lf t = true ∧ nds t ≤ 60 ∧ ∀ H', Same H H' → Q (.bl (plT t)) H'
def spDepth (K : PySem.W.Frag) : Sp := fun vs H Q _ => ∃ (v : V) (t : PyData), vs = [v] ∧ Dp K H v t ∧ lf t = true ∧ nds t ≤ 60 ∧ ∀ (o : Addr) (ov : V) (H' : Hp), Same H H' → H' o = some (.tup [.int ((lefts 60 t).1 : Nat), ov]) → Dp K H' ov (lefts 60 t).2 → Q (.ref o) H'
def spSpot (K : PySem.W.Frag) (r : Nat) : Sp := fun vs H Q _ => ∃ (v : V) (d : PyData) (h : Nat) (u : Stands), vs = [v, .int (h : Int)] ∧ Dp K H v d ∧ h < 2 ∧ stand r d h = some u ∧ Q (.int u.1) H
theorem inV_int (x : Int) (fs : List Int) : inV (.int x) (fs.map V.int) = decide (x ∈ fs) := by
  induction fs with
  | nil => rfl
  | cons y r ih =>
    show (eqV (.int y) (.int x) || inV (.int x) (r.map V.int)) = _
    rw [ih]
    by_cases c : y = x
    · subst c
      rw [show eqV (.int y) (.int y) = true from by simp [eqV]]
      simp
    · rw [show eqV (.int y) (.int x) = false from by simp [eqV, c]]
      by_cases m : x ∈ r
      · simp [m]
      · simp [m, Ne.symm c]
theorem flat_ints (fs : List Int) : (fs.map V.int).all flatV = true := by
  induction fs with
  | nil => rfl
  | cons y r ih => simpa [flatV] using ih
theorem two_short {fs : List Int} (n : fs.Nodup) {i j : Int} (h : ∀ x ∈ fs, x = i ∨ x = j) : fs.length ≤ 2 := by
  match fs, n, h with
  | [], _, _ => exact Nat.zero_le _
  | [_], _, _ => exact Nat.le_succ 1
  | [_, _], _, _ => exact Nat.le_refl 2
  | a :: b :: c :: r, n, h =>
    exfalso
    have ha := h a (by simp)
    have hb := h b (by simp)
    have hc := h c (by simp)
    simp only [List.nodup_cons, List.mem_cons, not_or] at n
    omega
section
variable {P : Program} {w : World} {K : PySem.W.Frag} {mg : Str → Option Value} {base : Heap}
abbrev nNum : List Str := ["_law_thing", "_law_found", "_law_left", "_law_one_here"]
theorem scNum : FnScope nNum ["_law_thing"] (defScope s__law_numbers) := ⟨rfl, rfl, rfl, by decide +kernel, rfl, by decide +kernel, by decide +kernel⟩
theorem ok_numbers {f : Addr} {fd : FuncData} (F : Fun K "_law_numbers" "_law_numbers" s__law_numbers f fd) (T : Txt K mg) : FnOk P w K mg base CX0 1 f fd ["_law_thing"] (spNumbers K) := by
  refine F.ok scNum (fun vs H Q E h => ?_) (fun cdv A outer s H vs Q E hr h => ?_)
  · obtain ⟨v, t, rfl, _⟩ := h
    rfl
  obtain ⟨v, t, rfl, hk, hlf, hn, q⟩ := h
  have nd := scNum.nd
  refine ⟨_, (pss_cons (ps_set (i := 1) nd rfl (Or.inl rfl) (pe_lst pa_nil))
    (pss_cons (ps_set (i := 2) nd rfl (Or.inl rfl) (pe_lst (pa_cons (pv 0) pa_nil)))
    (pss_cons (ps_while PassesOwn.never (pt_cmpR (op_neD hr.units) (pv 2) (pe_lst pa_nil) (nomark _))
      (pss_cons (ps_set (i := 3) nd rfl (Or.inl rfl) (pe_bm0 PySem.F.plainAttrs_list PySem.F.slot_list_pop PySem.F.type_list_pop mt_pop (pv 2)))
    (pss_one (ps_if (pt_val (pe_callB call_isiT (by rfl) T.isi boot_isinstance (pa_cons (pv 3) (pa_cons (pe_tup (pa_cons (pe_bltn (v := .ty "tuple") (by rfl) T.tuple boot_tuple rfl) (pa_cons (pe_bltn (v := .ty "list") (by rfl) T.list boot_list rfl) pa_nil))) pa_nil))))
      (pss_one (ps_expr (pe_bm PySem.F.plainAttrs_list PySem.F.slot_list_extend PySem.F.type_list_extend mt_extend (pv 2) (pa_cons (pe_callTy call_list_of (by rfl) T.list boot_list (pa_cons (pv 3) pa_nil)) pa_nil))))
      (pss_one (ps_if (PW.pt (pw_and (pt_val (pe_callB call_isi (by rfl) T.isi boot_isinstance (pa_cons (pv 3) (pa_cons (pe_bltn (v := .ty "int") (by rfl) T.int boot_int rfl) pa_nil)))) (pw_and (pt_not (pt_val (pe_callB call_isi (by rfl) T.isi boot_isinstance (pa_cons (pv 3) (pa_cons (pe_bltn (v := .ty "bool") (by rfl) T.bool boot_bool rfl) pa_nil))))) (pw_and (pt_cmpR op_ge (pv 3) pe_int (nomark _)) (pw_and1 (pt_cmpR op_notIn_seq (pv 3) (pv 1) (by rfl)))))))
      (pss_one (ps_expr (pe_bm PySem.F.plainAttrs_list PySem.F.slot_list_append PySem.F.type_list_append mt_append (pv 1) (pa_cons (pv 3) pa_nil))))
      pss_nil))))))
    (pss_one (ps_ret (pe_slice sl_list (pe_op op_cat (pv 1) (pe_lst (pa_cons pe_int (pa_cons pe_int pa_nil)))) po_none (po_some pe_int))))))), ?_⟩
  refine ⟨Nat.zero_le _, fun fd0 hfd => ?_⟩
  have s0 := same_new hfd (.lst [])
  refine ⟨_, rfl, (by show 1 ≤ sizeLine; decide), fun lf0 hlf0 => ?_⟩
  have s1 := s0.trans (same_new hlf0 (.lst [v]))
  have nfl : fd0 ≠ lf0 := ne_of_none upd_same hlf0
  have hlfH : H lf0 = none := s0.free hlf0
  have ef : upd (upd H fd0 (.lst [])) lf0 (.lst [v]) fd0 = some (.lst []) := by rw [upd_ne nfl, upd_same]
  have el : upd (upd H fd0 (.lst [])) lf0 (.lst [v]) lf0 = some (.lst [v]) := upd_same
  generalize upd (upd H fd0 (.lst [])) lf0 (.lst [v]) = H0 at s1 ef el ⊢
  refine ⟨fun m σ Hc => ∃ (vs : List V) (L : List PyData) (fs : List Int) (g : Option V), m = ndsAll L ∧ fs.length + ndsAll L ≤ 60 ∧ σ = [some v, some (.ref fd0), some (.ref lf0), g] ∧ Same H Hc ∧ Hc lf0 = some (.lst vs) ∧ Hc fd0 = some (.lst (fs.map V.int)) ∧ DpAll K H vs L ∧ lfAll L = true ∧
    fs.Nodup ∧ (∀ x ∈ fs, 0 ≤ x ∧ hasI x t = true) ∧ (∀ x, 0 ≤ x → hasI x t = true → x ∈ fs ∨ hasIAll x L = true) ∧ (∀ x, hasIAll x L = true → hasI x t = true), ⟨_, [v], [t], [], none, rfl, (by show 0 + (nds t + 0) ≤ 60; omega), rfl, s1, el, ef, .cons hk .nil, (by show (lf t && true) = true; rw [hlf]; rfl), List.nodup_nil, (fun x m => by cases m), (fun x _ h => .inr (by show (hasI x t || false) = true; rw [h]; rfl)), (fun x h => by
      have h' : (hasI x t || false) = true := h
      rwa [Bool.or_false] at h')⟩, ?_⟩
  rintro m σ Hc ⟨vs, L, fs, g, rfl, hm, rfl, sc, hl0, hf0, hka, hL, hnd, hfs, hin, hout⟩
  refine ⟨_, rfl, Nat.zero_le _, fun e he => ?_⟩
  have s2 := same_new he (.lst [])
  have hl1 := s2 _ _ hl0
  have hf1 := s2 _ _ hf0
  have sc1 := sc.trans s2
  refine ⟨.list L, .list [], .lst (SqL.of hl1) (dpAll_mono sc1 _ _ hka), .lst (SqL.of upd_same) .nil, lfAll_shaped hL (by omega), rfl, _, rfl, ?_⟩
  generalize upd Hc e (.lst []) = H1 at hl1 hf1 sc1 ⊢
  rcases List.eq_nil_or_concat L with rfl | ⟨L0, d1, rfl⟩
  · refine iteF' rfl ?_
    have hall : ∀ x, 0 ≤ x → hasI x t = true → x ∈ fs := fun x h0 hx => by
      rcases hin x h0 hx with h | h
      · exact h
      · cases h
    refine ⟨_, rfl, (by show 2 ≤ sizeLine; decide), fun z hz => ?_⟩
    have s3 := same_new hz (.lst [V.int 0, V.int 1])
    refine ⟨fd0, z, _, _, rfl, rfl, s3 _ _ hf1, upd_same, small13 (by rw [List.length_map]; show fs.length + 2 ≤ _; omega), fun c hc => ?_⟩
    have s4 := s3.trans (same_new hc (.lst (fs.map V.int ++ [V.int 0, V.int 1])))
    refine ⟨4, rfl, c, _, rfl, SqL.of upd_same, fun p hp => ?_⟩
    have s5 := s4.trans (same_new hp (.lst (cutV (fs.map V.int ++ [V.int 0, V.int 1]) none (some 4))))
    have ecut : cutV (fs.map V.int ++ [V.int 0, V.int 1]) none (some 4) = ((fs ++ [0, 1]).take 4).map V.int := by
      show (List.drop 0 _).take (HT.sIx _ _ (some ((4 : Nat) : Int)) - 0) = _
      rw [HT.sIx_nat, List.drop_zero, Nat.sub_zero, List.map_take, List.map_append]
      rw [List.take_eq_take_min, Nat.min_assoc]
      simp [List.take_eq_take_iff]
    have e5 : upd (upd (upd H1 z (.lst [V.int 0, V.int 1])) c (.lst (fs.map V.int ++ [V.int 0, V.int 1]))) p (.lst (cutV (fs.map V.int ++ [V.int 0, V.int 1]) none (some 4))) p = some (.lst (((fs ++ [0, 1]).take 4).map V.int)) := by rw [upd_same, ecut]
    refine q p ((fs ++ [0, 1]).take 4) _ (sc1.trans s5) e5 ?_ ?_ ?_ ?_
    · intro h
      have := congrArg List.length h
      rw [List.length_take, List.length_append] at this
      simp at this
    · exact Nat.le_trans (by rw [List.length_take]; exact Nat.min_le_left _ _) (Nat.le_refl 4)
    · intro x hx
      rcases List.mem_append.mp (List.mem_of_mem_take hx) with h | h
      · exact (hfs x h).1
      · simp at h; omega
    · intro i j hij x h0 hx
      have h2 := two_short hnd (i := i) (j := j) fun y hy => hij y (hfs y hy).2
      have : (fs ++ [0, 1]).take 4 = fs ++ [0, 1] := List.take_of_length_le (by rw [List.length_append]; show fs.length + 2 ≤ 4; omega)
      rw [this]
      exact List.mem_append_left _ (hall x h0 hx)
  refine iteT' (by show (!PyData.eqv (.list (L0.concat d1)) (.list [])) = true; rw [List.concat_eq_append]; cases L0 <;> rfl) ?_
  rw [List.concat_eq_append] at hka hL hin hout hm
  obtain ⟨vs0, v1, rfl, ka, k1⟩ := dpAll_unsnoc hka
  rw [List.concat_eq_append]
  rw [lfAll_app] at hL
  obtain ⟨hL0, hL1⟩ := Bool.and_eq_true_iff.mp hL
  have hd1 : lf d1 = true := (Bool.and_eq_true_iff.mp (show (lf d1 && true) = true from hL1)).1
  have ens : ndsAll (L0 ++ [d1]) = ndsAll L0 + nds d1 := by rw [ndsAll_app]; rfl
  rw [ens] at hm ⊢
  have p1 := nds_pos d1
  have lv0 := dpAll_len ka
  have ln0 := ndsAll_len L0
  refine ⟨fun σ' H'' => ∃ m' < ndsAll L0 + nds d1, ∃ (vs : List V) (L : List PyData) (fs : List Int) (g : Option V), m' = ndsAll L ∧ fs.length + ndsAll L ≤ 60 ∧ σ' = [some v, some (.ref fd0), some (.ref lf0), g] ∧ Same H H'' ∧ H'' lf0 = some (.lst vs) ∧ H'' fd0 = some (.lst (fs.map V.int)) ∧ DpAll K H vs L ∧ lfAll L = true ∧
    fs.Nodup ∧ (∀ x ∈ fs, 0 ≤ x ∧ hasI x t = true) ∧ (∀ x, 0 ≤ x → hasI x t = true → x ∈ fs ∨ hasIAll x L = true) ∧ (∀ x, hasIAll x L = true → hasI x t = true), fun σ' H'' h => h, ?_⟩
  refine ⟨_, rfl, .inl ⟨rfl, _, SqL.of hl1⟩, lf0, _, v1, rfl, rfl, hl1, (by rw [List.length_append]; simp), ?_⟩
  rw [List.dropLast_concat]
  have hl2 : (upd H1 lf0 (.lst vs0)) lf0 = some (.lst vs0) := upd_same
  have hf2 : (upd H1 lf0 (.lst vs0)) fd0 = some (.lst (fs.map V.int)) := by rw [upd_ne nfl]; exact hf1
  have sc2 : Same H (upd H1 lf0 (.lst vs0)) := same_upd sc1 hlfH
  generalize upd H1 lf0 (.lst vs0) = H2 at hl2 hf2 sc2 ⊢
  refine ⟨_, rfl, (by show 2 ≤ sizeLine; decide), fun tp htp => ?_⟩
  have s3 := same_new htp (.tup [V.ty "tuple", V.ty "list"])
  have hl3 := s3 _ _ hl2
  have hf3 := s3 _ _ hf2
  have sc3 := sc2.trans s3
  have k3 := dp_mono sc3 _ _ k1
  have etp : upd H2 tp (.tup [V.ty "tuple", V.ty "list"]) tp = some (.tup [V.ty "tuple", V.ty "list"]) := upd_same
  generalize upd H2 tp (.tup [V.ty "tuple", V.ty "list"]) = H3 at hl3 hf3 sc3 k3 etp ⊢
  refine ⟨v1, tp, _, _, _, isSeqD d1, rfl, etp, .cons (.ty "tuple") (.cons (.ty "list") .nil), dp_ty k3, kit_seq d1, _, rfl, ?_⟩
  cases cs : isSeqD d1 with
  | true =>
    obtain ⟨sp1, sp2, sp3⟩ := seq_parts cs
    obtain ⟨a, xs, rfl, hsq0, hps⟩ := dp_seq k1 cs
    have hsq : SqL K H3 a xs ∨ SqT K H3 a xs := hsq0.elim (fun h => .inl (sc3.seq h)) (fun h => .inr (seqT_mono sc3 h))
    have lx := dpAll_len hps
    have lp := ndsAll_len (partsD d1)
    refine iteT ⟨_, rfl, .inl ⟨rfl, _, SqL.of hl3⟩, _, rfl, a, _, rfl, hsq, fun l hl => ?_⟩
    have s4 := same_new hl (.lst xs)
    refine ⟨lf0, l, vs0, xs, rfl, rfl, s4 _ _ hl3, upd_same, small13 (by show vs0.length + xs.length ≤ _; omega), ?_⟩
    have exs : DpAll K H xs (partsD d1) := hps
    refine ⟨ndsAll (L0 ++ partsD d1), by rw [ndsAll_app]; omega, vs0 ++ xs, L0 ++ partsD d1, fs, _, rfl, by rw [ndsAll_app]; omega, rfl, same_upd (sc3.trans s4) hlfH, upd_same, (by rw [upd_ne nfl]; exact s4 _ _ hf3), dpAll_app ka exs, by rw [lfAll_app, hL0, sp2 hd1]; rfl, hnd, hfs, fun x h0 hx => ?_, fun x hx => ?_⟩
    · rcases hin x h0 hx with h | h
      · exact .inl h
      · right
        rw [hasAll_app] at h ⊢
        have h' : (hasIAll x L0 || (hasI x d1 || false)) = true := h
        rw [Bool.or_false, sp3] at h'
        exact h'
    · refine hout x ?_
      rw [hasAll_app] at hx ⊢
      show (hasIAll x L0 || (hasI x d1 || false)) = true
      rw [Bool.or_false, sp3]
      exact hx
  | false =>
    refine iteF ?_
    obtain ⟨b1, b2, e1, e2, e3⟩ := kit_int d1 (K := K)
    have stay : (∀ x, 0 ≤ x → d1 = .int x → x ∈ fs) → ∃ m' < ndsAll L0 + nds d1, ∃ (vs : List V) (L : List PyData) (fs : List Int) (g : Option V), m' = ndsAll L ∧ fs.length + ndsAll L ≤ 60 ∧ [some v, some (V.ref fd0), some (.ref lf0), some v1] = [some v, some (V.ref fd0), some (.ref lf0), g] ∧ Same H H3 ∧ H3 lf0 = some (.lst vs) ∧ H3 fd0 = some (.lst (fs.map V.int)) ∧ DpAll K H vs L ∧ lfAll L = true ∧
        fs.Nodup ∧ (∀ x ∈ fs, 0 ≤ x ∧ hasI x t = true) ∧ (∀ x, 0 ≤ x → hasI x t = true → x ∈ fs ∨ hasIAll x L = true) ∧ (∀ x, hasIAll x L = true → hasI x t = true) := fun hno =>
      ⟨ndsAll L0, by omega, vs0, L0, fs, _, rfl, by omega, rfl, sc3, hl3, hf3, ka, hL0, hnd, hfs, fun x h0 hx => by
        rcases hin x h0 hx with h | h
        · exact .inl h
        · rw [hasAll_app] at h
          have h' : (hasIAll x L0 || (hasI x d1 || false)) = true := h
          rw [Bool.or_false, Bool.or_eq_true] at h'
          rcases h' with h' | h'
          · exact .inr h'
          · exact .inl (hno x h0 (hasI_leaf cs x h')), fun x hx => hout x (by rw [hasAll_app, hx]; rfl)⟩
    refine ⟨_, rfl, v1, V.ty "int", _, _, b1, rfl, .ty "int", dp_ty k3, e1, b1, rfl, ?_⟩
    have notint : isWholeD d1 = false → ∀ x, 0 ≤ x → d1 = .int x → x ∈ fs := fun c x _ e => by rw [e] at c; cases c
    cases b1 with
    | false => exact iteF (iteF (stay (notint (by rw [e3]; rfl))))
    | true =>
      refine iteT ⟨_, rfl, v1, V.ty "bool", _, _, b2, rfl, .ty "bool", dp_ty k3, e2, b2, rfl, ?_⟩
      cases b2 with
      | true => exact iteF (iteF (stay (notint (by rw [e3]; rfl))))
      | false =>
        obtain ⟨i, rfl⟩ : ∃ i, d1 = .int i := by cases d1 <;> first | exact ⟨_, rfl⟩ | cases e3
        cases k3
        refine iteT ⟨_, rfl, _, _, rfl, rfl, _, rfl, ?_⟩
        by_cases c0 : (0 : Int) ≤ i
        case neg =>
          refine iteF' (decide_eq_false (by omega)) (iteF (stay fun x h0 e => ?_))
          cases e
          exact absurd h0 c0
        refine iteT' (decide_eq_true (by omega)) ⟨_, rfl, _, rfl, fd0, _, rfl, .inl (SqL.of hf3), rfl, flat_ints fs, _, rfl, ?_⟩
        by_cases cm : i ∈ fs
        · refine iteF' (by show (!inV (.int i) (fs.map V.int)) = false; rw [inV_int, decide_eq_true cm]; rfl) (stay fun x h0 e => ?_)
          cases e
          exact cm
        · refine iteT' (by show (!inV (.int i) (fs.map V.int)) = true; rw [inV_int, decide_eq_false cm]; rfl) ?_
          refine ⟨_, rfl, .inl ⟨rfl, _, SqL.of hf3⟩, _, rfl, fd0, _, _, rfl, rfl, hf3, small13 (by rw [List.length_map]; omega), ?_⟩
          have hti : hasI i t = true := hout i (by rw [hasAll_app]; show (hasIAll i L0 || (decide (i = i) || false)) = true; simp)
          refine ⟨ndsAll L0, by omega, vs0, L0, fs ++ [i], _, rfl, by rw [List.length_append]; show fs.length + 1 + ndsAll L0 ≤ 60; omega, rfl, same_upd sc3 (hfd), by rw [upd_ne nfl.symm]; exact hl3, by rw [upd_same, List.map_append]; rfl, ka, hL0, ?_, ?_, ?_, ?_⟩
          · rw [List.nodup_append]
            refine ⟨hnd, by simp, fun x hx y hy e => ?_⟩
            rw [List.mem_singleton.mp hy] at e
            rw [e] at hx
            exact cm hx
          · intro x hx
            rcases List.mem_append.mp hx with h | h
            · exact hfs x h
            · rw [List.mem_singleton.mp h]; exact ⟨c0, hti⟩
          · intro x h0 hx
            rcases hin x h0 hx with h | h
            · exact .inl (List.mem_append_left _ h)
            · rw [hasAll_app] at h
              have h' : (hasIAll x L0 || (hasI x (.int i) || false)) = true := h
              rw [Bool.or_false, Bool.or_eq_true] at h'
              rcases h' with h' | h'
              · exact .inr h'
              · have : i = x := of_decide_eq_true h'
                rw [← this]
                exact .inl (List.mem_append_right _ List.mem_cons_self)
          · exact fun x hx => hout x (by rw [hasAll_app, hx]; rfl)
theorem plT_leaf {d : PyData} (c : isTupD d = false) : plT d = (isN d || isWholeD d) := by
  cases d <;> first | rfl | cases c
abbrev nPl : List Str := ["_law_thing", "_law_left", "_law_one_here"]
theorem scPl : FnScope nPl ["_law_thing"] (defScope s__law_plain_things) := ⟨rfl, rfl, rfl, by decide +kernel, rfl, by decide +kernel, by decide +kernel⟩
theorem ok_plainG {f : Addr} {fd : FuncData} (F : Fun K "_law_plain_things" "_law_plain_things" s__law_plain_things f fd) (T : Txt K mg) : FnOk P w K mg base CX0 1 f fd ["_law_thing"] (spPlainG K) := by
  refine F.ok scPl (fun vs H Q E h => ?_) (fun cdv A outer s H vs Q E hr h => ?_)
  · obtain ⟨v, t, rfl, _⟩ := h
    rfl
  obtain ⟨v, t, rfl, hk, hlf, hn, q⟩ := h
  have nd := scPl.nd
  refine ⟨_, (pss_cons (ps_set (i := 1) nd rfl (Or.inl rfl) (pe_lst (pa_cons (pv 0) pa_nil)))
    (pss_cons (ps_while PassesOwn.never (pt_cmpR (op_neD hr.units) (pv 1) (pe_lst pa_nil) (nomark _))
      (pss_cons (ps_set (i := 2) nd rfl (Or.inl rfl) (pe_bm0 PySem.F.plainAttrs_list PySem.F.slot_list_pop PySem.F.type_list_pop mt_pop (pv 1)))
    (pss_one (ps_if (pt_val (pe_callB call_isi (by rfl) T.isi boot_isinstance (pa_cons (pv 2) (pa_cons (pe_bltn (v := .ty "tuple") (by rfl) T.tuple boot_tuple rfl) pa_nil))))
      (pss_one (ps_expr (pe_bm PySem.F.plainAttrs_list PySem.F.slot_list_extend PySem.F.type_list_extend mt_extend (pv 1) (pa_cons (pe_callTy call_list_of (by rfl) T.list boot_list (pa_cons (pv 2) pa_nil)) pa_nil))))
      (pss_one (ps_if (PW.pt (pw_and (pt_cmpR op_notN (pv 2) pe_non (nomark _)) (pw_and1 (PW.pt (pw_or (pt_val (pe_callB call_isi (by rfl) T.isi boot_isinstance (pa_cons (pv 2) (pa_cons (pe_bltn (v := .ty "bool") (by rfl) T.bool boot_bool rfl) pa_nil)))) (pw_or1 (pt_not (pt_val (pe_callB call_isi (by rfl) T.isi boot_isinstance (pa_cons (pv 2) (pa_cons (pe_bltn (v := .ty "int") (by rfl) T.int boot_int rfl) pa_nil)))))))))))
      (pss_one (ps_ret pe_bl))
      pss_nil))))))
    (pss_one (ps_ret pe_bl)))), ?_⟩
  refine ⟨_, rfl, (by show 1 ≤ sizeLine; decide), fun lf0 hlf0 => ?_⟩
  have s1 := same_new hlf0 (.lst [v])
  refine ⟨fun m σ Hc => ∃ (vs : List V) (L : List PyData) (g : Option V), m = ndsAll L ∧ ndsAll L ≤ 60 ∧ σ = [some v, some (.ref lf0), g] ∧ Same H Hc ∧ Hc lf0 = some (.lst vs) ∧ DpAll K H vs L ∧ lfAll L = true ∧ plTAll L = plT t, ⟨_, [v], [t], none, rfl, (by show nds t + 0 ≤ 60; omega), rfl, s1, upd_same, .cons hk .nil, (by show (lf t && true) = true; rw [hlf]; rfl), (by show (plT t && true) = plT t; rw [Bool.and_true])⟩, ?_⟩
  rintro m σ Hc ⟨vs, L, g, rfl, hm, rfl, sc, hl0, hka, hL, hpl⟩
  refine ⟨_, rfl, Nat.zero_le _, fun e he => ?_⟩
  have s2 := same_new he (.lst [])
  have hl1 := s2 _ _ hl0
  have sc1 := sc.trans s2
  refine ⟨.list L, .list [], .lst (SqL.of hl1) (dpAll_mono sc1 _ _ hka), .lst (SqL.of upd_same) .nil, lfAll_shaped hL (by omega), rfl, _, rfl, ?_⟩
  generalize upd Hc e (.lst []) = H1 at hl1 sc1 ⊢
  rcases List.eq_nil_or_concat L with rfl | ⟨L0, d1, rfl⟩
  · refine iteF' rfl ?_
    have : plT t = true := hpl.symm
    rw [← this]
    exact q _ sc1
  refine iteT' (by show (!PyData.eqv (.list (L0.concat d1)) (.list [])) = true; rw [List.concat_eq_append]; cases L0 <;> rfl) ?_
  rw [List.concat_eq_append] at hka hL hm hpl
  obtain ⟨vs0, v1, rfl, ka, k1⟩ := dpAll_unsnoc hka
  rw [List.concat_eq_append]
  rw [lfAll_app] at hL
  obtain ⟨hL0, hL1⟩ := Bool.and_eq_true_iff.mp hL
  have hd1 : lf d1 = true := (Bool.and_eq_true_iff.mp (show (lf d1 && true) = true from hL1)).1
  have ens : ndsAll (L0 ++ [d1]) = ndsAll L0 + nds d1 := by rw [ndsAll_app]; rfl
  rw [ens] at hm ⊢
  have hpl' : (plTAll L0 && plT d1) = plT t := by
    rw [← hpl, plAll_app]
    show _ = (plTAll L0 && (plT d1 && true))
    rw [Bool.and_true]
  have p1 := nds_pos d1
  have lv0 := dpAll_len ka
  have ln0 := ndsAll_len L0
  refine ⟨fun σ' H'' => ∃ m' < ndsAll L0 + nds d1, ∃ (vs : List V) (L : List PyData) (g : Option V), m' = ndsAll L ∧ ndsAll L ≤ 60 ∧ σ' = [some v, some (.ref lf0), g] ∧ Same H H'' ∧ H'' lf0 = some (.lst vs) ∧ DpAll K H vs L ∧ lfAll L = true ∧ plTAll L = plT t, fun σ' H'' h => h, ?_⟩
  refine ⟨_, rfl, .inl ⟨rfl, _, SqL.of hl1⟩, lf0, _, v1, rfl, rfl, hl1, (by rw [List.length_append]; simp), ?_⟩
  rw [List.dropLast_concat]
  have hl2 : (upd H1 lf0 (.lst vs0)) lf0 = some (.lst vs0) := upd_same
  have sc2 : Same H (upd H1 lf0 (.lst vs0)) := same_upd sc1 hlf0
  generalize upd H1 lf0 (.lst vs0) = H2 at hl2 sc2 ⊢
  have k3 := dp_mono sc2 _ _ k1
  refine ⟨_, rfl, v1, V.ty "tuple", _, _, isTupD d1, rfl, .ty "tuple", dp_ty k3, kit_tup d1, _, rfl, ?_⟩
  cases cs : isTupD d1 with
  | true =>
    obtain ⟨ds, rfl⟩ : ∃ ds, d1 = .tuple ds := by cases d1 <;> first | exact ⟨_, rfl⟩ | cases cs
    obtain ⟨a, xs, rfl, hsq0, hps⟩ := dp_tup k1
    have lx := dpAll_len hps
    have lp := ndsAll_len ds
    have en : nds (.tuple ds) = 1 + ndsAll ds := by simp [nds]
    refine iteT ⟨_, rfl, .inl ⟨rfl, _, SqL.of hl2⟩, _, rfl, a, _, rfl, .inr (seqT_mono sc2 hsq0), fun l hl => ?_⟩
    have s4 := same_new hl (.lst xs)
    refine ⟨lf0, l, vs0, xs, rfl, rfl, s4 _ _ hl2, upd_same, small13 (by show vs0.length + xs.length ≤ _; omega), ?_⟩
    refine ⟨ndsAll (L0 ++ ds), by rw [ndsAll_app]; omega, vs0 ++ xs, L0 ++ ds, _, rfl, by rw [ndsAll_app]; omega, rfl, same_upd (sc2.trans s4) hlf0, upd_same, dpAll_app ka hps, (by rw [lfAll_app, hL0]; exact (seq_parts (d := .tuple ds) rfl).2.1 hd1), ?_⟩
    rw [plAll_app, ← hpl']
    rfl
  | false =>
    refine iteF ?_
    obtain ⟨b1, b2, e1, e2, e3⟩ := kit_int d1 (K := K)
    have epl := plT_leaf cs
    have hnn := dp_non k3
    have stay : plT d1 = true → ∃ m' < ndsAll L0 + nds d1, ∃ (vs : List V) (L : List PyData) (g : Option V), m' = ndsAll L ∧ ndsAll L ≤ 60 ∧ [some v, some (V.ref lf0), some v1] = [some v, some (V.ref lf0), g] ∧ Same H H2 ∧ H2 lf0 = some (.lst vs) ∧ DpAll K H vs L ∧ lfAll L = true ∧ plTAll L = plT t := fun hp =>
      ⟨ndsAll L0, by omega, vs0, L0, _, rfl, by omega, rfl, sc2, hl2, ka, hL0, by rw [← hpl', hp, Bool.and_true]⟩
    have out : plT d1 = false → Q (.bl false) H2 := fun hp => by
      have : plT t = false := by rw [← hpl', hp, Bool.and_false]
      rw [← this]
      exact q _ sc2
    refine ⟨_, rfl, rfl, _, rfl, ?_⟩
    cases cn : isN d1 with
    | true => exact iteF' (by show (!decide (v1 = .non)) = false; rw [hnn, cn]; rfl) (iteF (stay (by rw [epl, cn]; rfl)))
    | false =>
      rw [cn, Bool.false_or] at epl
      refine iteT' (by show (!decide (v1 = .non)) = true; rw [hnn, cn]; rfl) ?_
      refine ⟨_, rfl, v1, V.ty "bool", _, _, b2, rfl, .ty "bool", dp_ty k3, e2, b2, rfl, ?_⟩
      cases b2 with
      | true => exact iteT (iteT (out (by rw [epl, e3, Bool.not_true, Bool.and_false])))
      | false =>
        refine iteF ⟨_, rfl, v1, V.ty "int", _, _, b1, rfl, .ty "int", dp_ty k3, e1, b1, rfl, ?_⟩
        cases b1 with
        | true => exact iteF (stay (by rw [epl, e3]; rfl))
        | false => exact iteT (out (by rw [epl, e3]; rfl))
theorem scDe : FnScope ["_law_thing", "_law_deep"] ["_law_thing"] (defScope s__law_depth) := ⟨rfl, rfl, rfl, by decide +kernel, rfl, by decide +kernel, by decide +kernel⟩
theorem lefts_leaf {d : PyData} (c : isTupD d = false) (n : Nat) : lefts n d = (0, d) := by
  cases n with
  | zero => rfl
  | succ n => cases d <;> first | rfl | cases c
theorem ok_depth {f : Addr} {fd : FuncData} (F : Fun K "_law_depth" "_law_depth" s__law_depth f fd) (T : Txt K mg) : FnOk P w K mg base CX0 1 f fd ["_law_thing"] (spDepth K) := by
  refine F.ok scDe (fun vs H Q E h => ?_) (fun cdv A outer s H vs Q E hr h => ?_)
  · obtain ⟨v, t, rfl, _⟩ := h
    rfl
  obtain ⟨v, t, rfl, hk, hlf, hn, q⟩ := h
  have nd := scDe.nd
  refine ⟨_, (pss_cons (ps_set (i := 1) nd rfl (Or.inl rfl) pe_int)
    (pss_cons (ps_while PassesOwn.never (PW.pt (pw_and (pt_val (pe_callB call_isi (by rfl) T.isi boot_isinstance (pa_cons (pv 0) (pa_cons (pe_bltn (v := .ty "tuple") (by rfl) T.tuple boot_tuple rfl) pa_nil)))) (pw_and1 (pt_cmpR (op_neD hr.units) (pv 0) (pe_tup pa_nil) (nomark _)))))
      (pss_cons (ps_set (i := 1) nd rfl (Or.inl rfl) (pe_op op_add (pv 1) pe_int))
    (pss_one (ps_set (i := 0) nd rfl (Or.inl rfl) (pe_ix ix_tup (pv 0) pe_int (fun _ _ => rfl))))))
    (pss_one (ps_ret (pe_tup (pa_cons (pv 1) (pa_cons (pv 0) pa_nil))))))), ?_⟩
  refine ⟨fun m σ Hc => ∃ (v' : V) (d' : PyData) (k : Nat), σ = [some v', some (.int (k : Int))] ∧ Same H Hc ∧ Dp K H v' d' ∧ lf d' = true ∧ nds d' ≤ m ∧ m ≤ 60 ∧ lefts 60 t = (k + (lefts m d').1, (lefts m d').2), ⟨60, v, t, 0, rfl, Same.refl H, hk, hlf, hn, Nat.le_refl _, by rw [Nat.zero_add]⟩, ?_⟩
  rintro m σ Hc ⟨v', d', k, rfl, sc, hk', hlf', hn', hm, he⟩
  have kc := dp_mono sc _ _ hk'
  refine ⟨_, rfl, v', V.ty "tuple", _, _, isTupD d', rfl, .ty "tuple", dp_ty kc, kit_tup d', _, rfl, ?_⟩
  cases cs : isTupD d' with
  | false =>
    refine iteF (iteF ?_)
    rw [lefts_leaf cs] at he
    refine ⟨_, rfl, _, rfl, (by show 2 ≤ sizeLine; decide), fun o ho => ?_⟩
    have s3 := same_new ho (.tup [V.int (k : Int), v'])
    refine q o v' _ (sc.trans s3) (by rw [upd_same, he]; rfl) ?_
    rw [he]
    exact dp_mono (sc.trans s3) _ _ hk'
  | true =>
    obtain ⟨ds, rfl⟩ : ∃ ds, d' = .tuple ds := by cases d' <;> first | exact ⟨_, rfl⟩ | cases cs
    obtain ⟨a, xs, rfl, hsq0, hps⟩ := dp_tup hk'
    refine iteT ⟨_, rfl, Nat.zero_le _, fun e hem => ?_⟩
    have s2 := same_new hem (.tup [])
    have sc1 := sc.trans s2
    refine ⟨.tuple ds, .tuple [], dp_mono sc1 _ _ hk', .tup (SqT.of upd_same) .nil, lf_shaped hlf' (by omega), rfl, _, rfl, ?_⟩
    cases ds with
    | nil => cases hlf'
    | cons d0 ds =>
      cases hps with
      | cons h1 h2 =>
        refine iteT' rfl ?_
        refine ⟨fun σ' H'' => ∃ m' < m, ∃ (v' : V) (d' : PyData) (k : Nat), σ' = [some v', some (.int (k : Int))] ∧ Same H H'' ∧ Dp K H v' d' ∧ lf d' = true ∧ nds d' ≤ m' ∧ m' ≤ 60 ∧ lefts 60 t = (k + (lefts m' d').1, (lefts m' d').2), fun σ' H'' h => h, ?_⟩
        have en : nds (.tuple (d0 :: ds)) = 1 + (nds d0 + ndsAll ds) := by simp [nds, ndsAll]
        obtain ⟨m, rfl⟩ : ∃ m', m = m' + 1 := ⟨m - 1, by omega⟩
        refine ⟨_, rfl, _, _, rfl, rfl, ?_⟩
        refine ⟨_, rfl, a, _, _, _, rfl, rfl, seqT_mono sc1 hsq0, at_zero _ _, m, Nat.lt_succ_self _, _, d0, k + 1, rfl, sc1, h1, ?_, by omega, by omega, ?_⟩
        · have := (seq_parts (d := .tuple (d0 :: ds)) rfl).2.1 hlf'
          exact (Bool.and_eq_true_iff.mp (show (lf d0 && lfAll ds) = true from this)).1
        · rw [he]
          show (k + ((lefts m d0).1 + 1), (lefts m d0).2) = _
          rw [show k + ((lefts m d0).1 + 1) = k + 1 + (lefts m d0).1 by omega]
abbrev nSp : List Str := ["_law_thing", "_law_hand", "_law_mine"]
theorem scSp : FnScope nSp ["_law_thing", "_law_hand"] (defScope s__law_spot) := ⟨rfl, rfl, rfl, by decide +kernel, rfl, by decide +kernel, by decide +kernel⟩
theorem ok_spot {f : Addr} {fd : FuncData} (F : Fun K "_law_spot" "_law_spot" s__law_spot f fd) (T : Txt K mg) (bF : Binds K fd ["_law_thing", "_law_hand"] []) (kF : PySem.W.keepIn K (.ref f) = true) (mF : mg "_law_spot" = some (.ref f)) :
    ∀ r, FnOk P w K mg base CX0 (1 + r) f fd ["_law_thing", "_law_hand"] (spSpot K r)
  | 0 => by
    refine F.ok scSp (fun vs H Q E h => ?_) (fun cdv A outer s H vs Q E hr h => ?_)
    · obtain ⟨v, d, h, u, rfl, _⟩ := h
      rfl
    obtain ⟨v, d, h, u, rfl, hk, hh, hu, q⟩ := h
    have nd := scSp.nd
    refine ⟨_, pss_cons (ps_if (pt_not (pt_val (pe_callB call_isi (by rfl) T.isi boot_isinstance (pa_cons (pv 0) (pa_cons (pe_bltn (v := .ty "tuple") (by rfl) T.tuple boot_tuple rfl) pa_nil))))) (pss_one (ps_ret (pv 1))) pss_nil) pss_never, ?_⟩
    obtain ⟨i, rfl, hi, rfl⟩ := stand0 hu
    refine ⟨_, rfl, v, V.ty "tuple", _, _, false, rfl, .ty "tuple", dp_ty hk, kit_tup _, _, rfl, iteT ?_⟩
    obtain rfl | rfl : h = 0 ∨ h = 1 := by omega
    · exact ⟨_, rfl, q⟩
    · exact ⟨_, rfl, q⟩
  | r + 1 => by
    have ih := ok_spot F T bF kF mF r
    refine F.ok (k := 1 + r) scSp (fun vs H Q E h => ?_) (fun cdv A outer s H vs Q E hr h => ?_)
    · obtain ⟨v, d, h, u, rfl, _⟩ := h
      rfl
    obtain ⟨v, d, h, u, rfl, hk, hh, hu, q⟩ := h
    have nd := scSp.nd
    refine ⟨_, pss_cons (ps_if (pt_not (pt_val (pe_callB call_isi (by rfl) T.isi boot_isinstance (pa_cons (pv 0) (pa_cons (pe_bltn (v := .ty "tuple") (by rfl) T.tuple boot_tuple rfl) pa_nil))))) pss_never pss_nil)
      (pss_cons (ps_set (i := 2) nd rfl (Or.inl rfl) (pe_call ih hr rfl mF kF bF .nil pass0 (pa_cons (pe_ix ix_tup (pv 0) pe_int (fun _ _ => rfl)) (pa_cons (pv 1) pa_nil))))
      (pss_cons (ps_if (pt_cmpR op_isN (pe_ix ix_tup (pv 0) pe_int (fun _ _ => rfl)) pe_non (nomark _)) (pss_one (ps_ret (pe_op op_mul pe_int (pv 2)))) pss_nil)
      (pss_one (ps_ret (pe_op op_add (pe_op op_mul pe_int (pv 2)) (pe_op op_mul pe_int (pe_op op_sub (pe_call ih hr rfl mF kF bF .nil pass0 (pa_cons (pe_ix ix_tup (pv 0) pe_int (fun _ _ => rfl)) (pa_cons (pe_op op_sub pe_int (pv 1)) pa_nil))) (pv 2)))))))), ?_⟩
    obtain ⟨x, y, u0, rfl, e0, e1⟩ := standS hu
    rcases dp_pair hk with ⟨a, xv, yv, e, g, rfl, ed, ha, hx, hy⟩ | ⟨hn, _⟩
    case inr => exact absurd rfl (hn x y)
    cases ed
    refine ⟨_, rfl, V.ref a, V.ty "tuple", _, _, true, rfl, .ty "tuple", dp_ty hk, kit_tup _, _, rfl, iteF ?_⟩
    refine ⟨_, rfl, a, _, _, _, rfl, rfl, ha, (by rfl), _, rfl, xv, x, h, u0, rfl, hx, hh, e0, ?_⟩
    refine ⟨_, rfl, a, _, _, _, rfl, rfl, ha, (by rfl), rfl, _, rfl, ?_⟩
    have yn := dp_non hy
    rcases e1 with ⟨cy, rfl⟩ | ⟨cy, v2, ev, em⟩
    · refine iteT' (by show decide (yv = .non) = true; rw [yn, cy]) ⟨_, rfl, _, _, rfl, rfl, .inl ⟨by decide, by decide⟩, q⟩
    · refine iteF' (by show decide (yv = .non) = false; rw [yn, cy]) ?_
      obtain ⟨_, _, _, rfl⟩ := metD_some em
      refine ⟨_, rfl, _, _, rfl, rfl, .inl ⟨by decide, by decide⟩, _, rfl, a, _, _, _, rfl, rfl, ha, (by rfl), _, rfl, _, _, rfl, rfl, yv, y, 1 - h, v2, (by show [yv, V.int ((1 : Int) - (h : Int))] = _; rw [show (1 : Int) - (h : Int) = ((1 - h : Nat) : Int) by omega]), hy, by omega, ev, ?_⟩
      exact ⟨_, rfl, _, _, rfl, rfl, _, _, rfl, rfl, .inl ⟨by decide, by decide⟩, _, _, rfl, rfl, q⟩
end
end TA

set_option Elab.async false
set_option maxRecDepth 100000
set_option maxHeartbeats 4000000
namespace TA
open PySem PySem.Spec L2 PyProof.Rows
set_option linter.unusedVariables false
def Pm.cur (p : Pm) (h : Nat) : Int := p.q h (p.l h)
theorem Pm.done_step (p : Pm) (z i : Nat) : (p.step z).done i = upf p.done z (p.done z + 1) i := by
  unfold Pm.step
  by_cases c : p.l z < p.n z
  · rw [if_pos c]
    show upf p.l z (p.l z + 1) i + p.n i = _
    by_cases e : i = z
    · subst e; rw [upf_same, upf_same]; unfold Pm.done; omega
    · rw [upf_ne e, upf_ne e]; rfl
  · rw [if_neg c]
    show p.l i + upf p.n z (p.n z + 1) i = _
    by_cases e : i = z
    · subst e; rw [upf_same, upf_same]; unfold Pm.done; omega
    · rw [upf_ne e, upf_ne e]; rfl
theorem Pm.done_run (p : Pm) (i : Nat) : ∀ hs : List Nat, (p.run hs).done i = p.done i + hs.count i := by
  intro hs
  induction hs generalizing p with
  | nil => rfl
  | cons h r ih =>
    show ((p.step h).run r).done i = _
    rw [ih, Pm.done_step, List.count_cons]
    unfold upf
    by_cases e : i = h
    · subst e; simp; omega
    · have e2 : ¬ h = i := fun q => e q.symm
      simp [e, e2]
theorem behind {a b : Int} (ha : 0 ≤ a) (hb : 0 ≤ b) {hs : List Nat} (hh : ∀ h ∈ hs, h < 2) {d h : Nat} (h2 : h < 2) (hc : hs.count h = 2 * d) :
    ((M0 a b).run hs).res d h = ((M0 a b).run hs).k h ∧ At a b d (((M0 a b).run hs).k h) h ((P0.run hs).cur h) := by
  obtain ⟨R, N⟩ := run_both ha hb hh (Rel.zero ha hb) Nb.zero
  have d1 : ((M0 a b).run hs).done h = 2 * d := by rw [M.done_run, hc]; show 0 + 0 + _ = _; omega
  have d2 : (P0.run hs).done h = 2 * d := by rw [Pm.done_run, hc]; show 0 + 0 + _ = _; omega
  have n1 := N.n1 h h2
  have hl : (P0.run hs).l h = d := by unfold Pm.done at d2; omega
  refine ⟨by unfold M.res; rw [if_pos d1], ?_⟩
  have := R.k h h2
  rw [hl] at this
  unfold Pm.cur
  rw [hl]
  exact this
/-- known(inputs, weaving, rounds = deep): how the arguments bind -/
abbrev KnB (K : PySem.W.Frag) (fd : FuncData) : Prop := KBn K fd ["inputs", "weaving", "rounds"] 2 ["rounds"] (fun us ws => us ++ ws) (fun vs zs => vs ++ zs)
structure KDef (P : Program) (w : World) (K : PySem.W.Frag) (mg : Str → Option Value) (base : Heap) (f : Addr) (fd : FuncData) : Prop where
  G : FnOk P w K mg base CX0 5 f fd ["inputs", "weaving", "rounds"] (spKnown K)
  b : KnB K fd
  k : PySem.W.keepIn K (.ref f) = true
  m : mg "known" = some (.ref f)
theorem kn_binds {K : PySem.W.Frag} {f : Addr} {fd : FuncData} (F : Fun K "known" "known" sKnown f fd) : KnB K fd := by
  obtain ⟨oc, od, kV, doc, pm, an, cdv, ct, osl, rfl, lk, hcd⟩ := F.ex
  refine ⟨fun s us ws _ h1 h2 => ?_, fun r q => r.append q⟩
  match us, ws, h1, h2 with
  | [_, _], [_], _, _ => exact .of_eq rfl
theorem But.tups {a : Addr} {H H' : Hp} {n : Int} (b : But a H H') (w : WellAt H a n) : Tups H H' := fun c xs e => by
  obtain ⟨x, y, z, ea, _⟩ := w
  exact b _ _ (ne_of e ea (fun q => by cases q)) e
def toN (xs : List Int) : List Nat := xs.map Int.toNat
def rowOk (d : Nat) (xs : List Int) : Bool := decide ((toN xs).map (fun n : Nat => (n : Int)) = xs) && ((toN xs).all (fun h => decide (h < 2)) && (decide ((toN xs).count 0 = 2 * d) && decide ((toN xs).count 1 = 2 * d)))
theorem rows_ok : ∀ d < 4, (lvl (2 * d) (4 * d)).all (rowOk d) = true := by decide +kernel
theorem toN_back (hs : List Nat) : toN (hs.map fun n : Nat => (n : Int)) = hs := by
  unfold toN
  rw [List.map_map]
  exact List.map_id' hs
theorem lefts_pl : ∀ {n : Nat} {d : PyData} {D : Nat} {ow : PyData}, plT d = true → lefts n d = (D, ow) → plT ow = true
  | 0, d, D, ow, h, e => by
    have : ow = d := (congrArg Prod.snd e).symm
    rw [this]; exact h
  | n + 1, d, D, ow, h, e => by
    cases c : isTupD d with
    | false =>
      rw [lefts_leaf c] at e
      have : ow = d := (congrArg Prod.snd e).symm
      rw [this]; exact h
    | true =>
      obtain ⟨ds, rfl⟩ : ∃ ds, d = .tuple ds := by cases d <;> first | exact ⟨_, rfl⟩ | cases c
      cases ds with
      | nil =>
        have : ow = .tuple [] := (congrArg Prod.snd e).symm
        rw [this]; rfl
      | cons d0 ds =>
        have h' : (plT d0 && plTAll ds) = true := h
        obtain ⟨h1, _⟩ := Bool.and_eq_true_iff.mp h'
        have e2 : (lefts n d0).2 = ow := congrArg Prod.snd e
        exact lefts_pl (n := n) (D := (lefts n d0).1) h1 (by rw [← e2])
/-- what the law has tried with one weaving -/
def Tried (t : PyData) (h D : Nat) (i : Int) (xs : List Int) : Prop := ∃ fs : List Int, fs ≠ [] ∧ (∀ i j : Int, (∀ x, hasI x t = true → x = i ∨ x = j) → ∀ x, 0 ≤ x → hasI x t = true → x ∈ fs) ∧ ∀ j ∈ fs, kn h D i j (toN xs) ≠ t
theorem tried_all {t : PyData} {h D : Nat} {i : Int} (hh : h < 2) (hD : D ≤ 2) (e : lefts 60 t = (D, .int i)) (all : ∀ xs ∈ lvl (2 * D) (4 * D), Tried t h D i xs) : ∀ r u, r ≤ 2 → stand r t h ≠ some u := by
  intro r u hr hu
  obtain ⟨i0, j, hs, hi, hj, hrow, hkn, hl, hi2, hsub, hc⟩ := comes_of hr hh hu
  rw [hl] at e
  injection e with e1 e2
  injection e2 with e2
  subst e1 e2
  have hm : hs.map (fun n : Nat => (n : Int)) ∈ lvl (2 * r) (4 * r) := of_decide_eq_true hrow
  obtain ⟨fs, fne, fmust, fno⟩ := all _ hm
  rw [toN_back] at fno
  rcases hc with hc | hc
  · exact fno j (fmust i0 j hsub j hj hc) hkn
  · cases fs with
    | nil => exact fne rfl
    | cons j' r => exact fno j' List.mem_cons_self (hc j')
def spComes (K : PySem.W.Frag) : Sp := fun vs H Q _ => ∃ (v : V) (t : PyData) (h : Nat), vs = [v, .int (h : Int)] ∧ Dp K H v t ∧ lf t = true ∧ nds t ≤ 60 ∧ h < 2 ∧ ∀ (c : Bool) (H' : Hp), Same H H' → (c = true → ∃ r u, r ≤ 2 ∧ stand r t h = some u) → (c = false → (lefts 60 t).1 ≤ 2 → ∀ r u, r ≤ 2 → stand r t h ≠ some u) → Q (.bl c) H'
section
variable {P : Program} {w : World} {K : PySem.W.Frag} {mg : Str → Option Value} {base : Heap}
abbrev nCo : List Str := ["_law_thing", "_law_hand", "_law_deep", "_law_own", "_law_weaving_here", "_law_other"]
theorem scCo : FnScope nCo ["_law_thing", "_law_hand"] (defScope s__law_comes) := ⟨rfl, rfl, rfl, by decide +kernel, rfl, by decide +kernel, by decide +kernel⟩
theorem pair_at {H : Hp} {t1 t2 : Addr} {i j : Int} {h : Nat} (hh : h < 2) (e1 : H t1 = some (.tup [.int i, .int j])) (e2 : H t2 = some (.tup [.int j, .int i])) : ∃ tA, atI [V.ref t1, V.ref t2] (h : Int) = some (.ref tA) ∧ H tA = some (.tup [.int (if h = 0 then i else j), .int (if h = 0 then j else i)]) := by
  obtain rfl | rfl : h = 0 ∨ h = 1 := by omega
  · exact ⟨t1, rfl, e1⟩
  · exact ⟨t2, rfl, e2⟩
theorem ok_comes {f g1 g2 g3 g4 g5 : Addr} {fd d1 d2 d3 d4 d5 : FuncData} (F : Fun K "_law_comes" "_law_comes" s__law_comes f fd) (T : Txt K mg) (D1 : Def P w K mg base "_law_depth" ["_law_thing"] 1 (spDepth K) g1 d1) (D2 : Def P w K mg base "_law_plain_things" ["_law_thing"] 1 (spPlainG K) g2 d2)
    (D3 : Def P w K mg base "weavings" ["rounds"] 3 (spWeav K) g3 d3) (D4 : Def P w K mg base "_law_numbers" ["_law_thing"] 1 (spNumbers K) g4 d4) (D5 : KDef P w K mg base g5 d5) : FnOk P w K mg base CX0 6 f fd ["_law_thing", "_law_hand"] (spComes K) := by
  refine F.ok scCo (fun vs H Q E h => ?_) (fun cdv A outer s H vs Q E hr h => ?_)
  · obtain ⟨v, t, h, rfl, _⟩ := h
    rfl
  obtain ⟨v, t, h, rfl, hk, hlf, hn, hh, q⟩ := h
  have nd := scCo.nd
  refine ⟨_, (pss_cons (ps_asg (pe_call D1.G (hr.mono (by decide)) rfl D1.m D1.k D1.b .nil pass0 (pa_cons (pv 0) pa_nil)) (pg_tup (by rfl) (pgs_cons (pg_name (i := 2) nd rfl (Or.inl rfl)) (pgs_cons (pg_name (i := 3) nd rfl (Or.inl rfl)) pgs_nil))))
    (pss_cons (ps_if (PW.pt (pw_or (pt_cmpR op_gt (pv 2) pe_int (nomark _)) (pw_or (pt_not (pt_val (pe_call D2.G (hr.mono (by decide)) rfl D2.m D2.k D2.b .nil pass0 (pa_cons (pv 0) pa_nil)))) (pw_or (pt_not (pt_val (pe_callB call_isi (by rfl) T.isi boot_isinstance (pa_cons (pv 3) (pa_cons (pe_bltn (v := .ty "int") (by rfl) T.int boot_int rfl) pa_nil))))) (pw_or1 (pt_cmpR op_lt (pv 3) pe_int (nomark _)))))))
      (pss_one (ps_ret pe_bl))
      pss_nil)
    (pss_cons (ps_for PassesOwn.never (by rfl) (pi_list (pe_call D3.G (hr.mono (by decide)) rfl D3.m D3.k D3.b .nil pass0 (pa_cons (pv 2) pa_nil))) (pg_name (i := 4) nd rfl (Or.inl rfl))
      (pss_one (ps_for PassesOwn.never (by rfl) (pi_list (pe_call D4.G (hr.mono (by decide)) rfl D4.m D4.k D4.b .nil pass0 (pa_cons (pv 0) pa_nil))) (pg_name (i := 5) nd rfl (Or.inl rfl))
      (pss_one (ps_if (pt_cmpR (op_eqD hr.units) (pe_ix ix_list (pe_callN D5.G (hr.mono (by decide)) rfl D5.m D5.k D5.b pass0 (pa_cons (pe_ix ix_list (pe_lst (pa_cons (pe_tup (pa_cons (pv 3) (pa_cons (pv 5) pa_nil))) (pa_cons (pe_tup (pa_cons (pv 5) (pa_cons (pv 3) pa_nil))) pa_nil))) (pv 1) (fun _ _ => rfl)) (pa_cons (pv 4) pa_nil)) (pk_cons (pv 2) pk_nil)) (pv 1) (fun _ _ => rfl)) (pv 0) (nomark _))
      (pss_one (ps_ret pe_bl))
      pss_nil)))))
    (pss_one (ps_ret pe_bl))))), ?_⟩
  refine ⟨_, rfl, v, t, rfl, hk, hlf, hn, fun o ov H1 s1 ho hov => ?_⟩
  generalize hL : lefts 60 t = L at ho hov
  obtain ⟨D, ow⟩ := L
  have no : (∀ r u, r ≤ 2 → stand r t h = some u → r = D ∧ ∃ i : Int, 0 ≤ i ∧ ow = .int i) := fun r u hr hu => by
    obtain ⟨i, hi, e⟩ := stand_lefts hu 60 (by omega)
    rw [hL] at e
    injection e with e1 e2
    exact ⟨e1.symm, i, hi, e2⟩
  refine ⟨o, _, rfl, SqT.of ho, rfl, _, _, rfl, _, _, rfl, rfl, ?_⟩
  refine ⟨_, rfl, _, _, rfl, rfl, _, rfl, ?_⟩
  by_cases c1 : 2 < D
  · refine iteT' (decide_eq_true (by omega)) (iteT (q false H1 s1 (fun z => by cases z) fun _ hle => ?_))
    exact absurd hle (by show ¬ (lefts 60 t).1 ≤ 2; rw [hL]; show ¬ D ≤ 2; omega)
  refine iteF' (decide_eq_false (by omega)) ⟨_, rfl, v, t, rfl, dp_mono s1 _ _ hk, hlf, hn, fun H2 s2 => ⟨_, rfl, ?_⟩⟩
  have s12 := s1.trans s2
  cases c2 : plT t with
  | false =>
    refine iteT (iteT (q false H2 s12 (fun z => by cases z) fun _ _ r u hr hu => ?_))
    rw [stand_pl hu] at c2
    cases c2
  | true =>
    refine iteF ?_
    have hov2 := dp_mono s2 _ _ hov
    obtain ⟨b1, b2, e1, e2, e3⟩ := kit_int ow (K := K)
    refine ⟨_, rfl, ov, V.ty "int", _, _, b1, rfl, .ty "int", dp_ty hov2, e1, b1, rfl, ?_⟩
    by_cases c3 : ∃ i, ow = .int i
    case neg =>
      have notint : Q (.bl false) H2 := q false H2 s12 (fun z => by cases z) fun _ _ r u hr hu => by
        obtain ⟨_, i, _, e⟩ := no r u hr hu
        exact c3 ⟨i, e⟩
      have hp := lefts_pl c2 hL
      have b1f : b1 = false := by
        cases ow with
        | int i => exact absurd ⟨i, rfl⟩ c3
        | none =>
          have z := kit_ty (K := K) (a := "NoneType") (b := "int") (r := false) (by decide +kernel)
          exact Option.some.inj (e1.symm.trans z)
        | tuple ds =>
          have z := kit_ty (K := K) (a := "tuple") (b := "int") (r := false) (by decide +kernel)
          exact Option.some.inj (e1.symm.trans z)
        | _ => cases hp
      subst b1f
      exact iteT (iteT notint)
    obtain ⟨i, rfl⟩ := c3
    cases hov2
    have b1t : b1 = true := by
      cases b1 with
      | true => rfl
      | false => cases e3
    subst b1t
    refine iteF ⟨_, rfl, _, _, rfl, rfl, _, rfl, ?_⟩
    by_cases c4 : i < 0
    · refine iteT' (decide_eq_true c4) (q false H2 s12 (fun z => by cases z) fun _ _ r u hr hu => ?_)
      obtain ⟨_, i', hi', e⟩ := no r u hr hu
      injection e with e
      omega
    refine iteF' (decide_eq_false c4) ?_
    have hD : D ≤ 2 := by omega
    refine ⟨_, rfl, D, rfl, by omega, fun p rs H3 s3 hp0 hp hrows => ?_⟩
    have s13 := s12.trans s3
    have allok := List.all_eq_true.mp (rows_ok D (by omega))
    refine ⟨p, rfl, ⟨_, SqL.of hp⟩, for_list (K := K) (a := p) (xs := rs.map V.ref) (fun k σ Hc => ∃ g4 g5, σ = [some v, some (.int (h : Int)), some (.int ((D : Nat) : Int)), some (.int i), g4, g5] ∧ Same H3 Hc ∧ ∀ n xs, n < k → (lvl (2 * D) (4 * D))[n]? = some xs → Tried t h D i xs) ⟨none, none, rfl, Same.refl H3, fun n xs hn => by omega⟩ ?_ ?_ ?_⟩
    · rintro k σ Hc _ ⟨g4, g5, _, sc, _⟩
      exact SqL.of (sc _ _ hp)
    · rintro k v0 σ Hc hx0 ⟨g4, g5, rfl, sc, htr⟩
      obtain ⟨r, xs, rfl, hW, hr0, hrr⟩ := hrows.get hx0
      have ok := allok xs (List.mem_of_getElem? hW)
      unfold rowOk at ok
      obtain ⟨o1, ok⟩ := Bool.and_eq_true_iff.mp ok
      obtain ⟨o2, ok⟩ := Bool.and_eq_true_iff.mp ok
      obtain ⟨o3, o4⟩ := Bool.and_eq_true_iff.mp ok
      have o1 := of_decide_eq_true o1
      have o3 := of_decide_eq_true o3
      have o4 := of_decide_eq_true o4
      have hh2 : ∀ h ∈ toN xs, h < 2 := fun h hm => of_decide_eq_true (List.all_eq_true.mp o2 h hm)
      have hl0 : xs.map V.int = hl (toN xs) := by rw [hl_ints, o1]
      rw [hl0] at hrr
      have full : ∀ h < 2, (toN xs).count h = 2 * D := fun h h2 => by
        obtain rfl | rfl : h = 0 ∨ h = 1 := by omega
        · exact o3
        · exact o4
      have hlen := len_counts (toN xs) hh2
      have sc0 := s13.trans sc
      refine ⟨_, rfl, v, t, rfl, dp_mono sc0 _ _ hk, hlf, hn, fun p2 fs H4 s4 hp2 fne f4 fpos fmust => ?_⟩
      refine ⟨p2, rfl, ⟨_, SqL.of hp2⟩, for_list (K := K) (a := p2) (xs := fs.map V.int) (fun m σ Hd => ∃ g5, σ = [some v, some (.int (h : Int)), some (.int ((D : Nat) : Int)), some (.int i), some (.ref r), g5] ∧ Same H4 Hd ∧ ∀ n j, n < m → fs[n]? = some j → kn h D i j (toN xs) ≠ t) ⟨_, rfl, Same.refl H4, fun n j hn => by omega⟩ ?_ ?_ ?_⟩
      · rintro m σ Hd _ ⟨g5, _, sd, _⟩
        exact SqL.of (sd _ _ hp2)
      · rintro m v1 σ Hd hx1 ⟨g5, rfl, sd, hno⟩
        obtain ⟨j, hj, rfl⟩ : ∃ j, fs[m]? = some j ∧ v1 = .int j := by
          rw [List.getElem?_map] at hx1
          obtain ⟨j, e1, e2⟩ := Option.map_eq_some_iff.mp hx1
          exact ⟨j, e1, e2.symm⟩
        have jpos := fpos j (List.mem_of_getElem? hj)
        have ipos : 0 ≤ i := by omega
        have sd0 := s4.trans sd
        refine ⟨_, rfl, _, rfl, (by show 2 ≤ sizeLine; decide), fun t1 h1 => ?_⟩
        have u1 := same_new h1 (.tup [V.int i, V.int j])
        refine ⟨_, rfl, _, rfl, (by show 2 ≤ sizeLine; decide), fun t2 h2 => ?_⟩
        have u2 := same_new h2 (.tup [V.int j, V.int i])
        refine ⟨(by show 2 ≤ sizeLine; decide), fun l hl => ?_⟩
        have u3 := same_new hl (.lst [V.ref t1, V.ref t2])
        have q1 := u3 _ _ (u2 _ _ (upd_same (H := Hd) (a := t1) (o := .tup [V.int i, V.int j])))
        have q2 := u3 _ _ (upd_same (H := upd Hd t1 (.tup [V.int i, V.int j])) (a := t2) (o := .tup [V.int j, V.int i]))
        have ql : upd (upd (upd Hd t1 (.tup [V.int i, V.int j])) t2 (.tup [V.int j, V.int i])) l (.lst [V.ref t1, V.ref t2]) l = some (.lst [V.ref t1, V.ref t2]) := upd_same
        have u0 := u1.trans (u2.trans u3)
        generalize upd (upd (upd Hd t1 (.tup [V.int i, V.int j])) t2 (.tup [V.int j, V.int i])) l (.lst [V.ref t1, V.ref t2]) = H5 at q1 q2 ql u0 ⊢
        obtain ⟨tA, eA, hA⟩ := pair_at hh q1 q2
        refine ⟨_, rfl, l, _, _, _, rfl, rfl, SqL.of ql, eA, _, rfl, _, rfl, rfl, rfl, r, toN xs, D, _, _, ⟨tA, rfl, hA, SqL.of (u0 _ _ (sd0 _ _ (sc _ _ hrr)))⟩, hh2, (fun h h2 => Nat.le_of_eq (full h h2)), by omega, by omega, (by split <;> assumption), (by split <;> assumption), fun bo bv H6 s6 hbo0 hbo kb => ?_⟩
        have sF := (sc0.trans sd0).trans (u0.trans s6)
        have rok := ((M.res_ok (M.ok_run (M.ok0 (if h = 0 then i else j) (if h = 0 then j else i)) (by decide) hh2) (by omega) D hh).up (show 1 + (toN xs).length ≤ 64 by omega)).shaped
        refine ⟨_, rfl, bo, _, _, _, rfl, rfl, SqL.of hbo, at_two bv hh, _, rfl, kn h D i j (toN xs), t, (kb h hh).dp, dp_mono sF _ _ hk, rok, lf_shaped hlf (by omega), _, rfl, ?_⟩
        have kpl : plT (kn h D i j (toN xs)) = true := kn_pl (kb h hh)
        cases ce : PyData.eqv (kn h D i j (toN xs)) t with
        | true =>
          have et := eqv_pl _ _ kpl c2 ce
          refine iteT (q true H6 sF (fun _ => ?_) (fun z => by cases z))
          obtain ⟨a1, u, eu, _⟩ := behind (a := if h = 0 then i else j) (b := if h = 0 then j else i) (by split <;> assumption) (by split <;> assumption) hh2 hh (full h hh)
          rw [← a1] at eu
          exact ⟨D, u, hD, by rw [← et]; exact eu⟩
        | false =>
          refine iteF ⟨_, rfl, sd.trans (u0.trans s6), fun n j' hn' hj' => ?_⟩
          by_cases cn : n < m
          · exact hno n j' cn hj'
          · obtain rfl : n = m := by omega
            rw [hj] at hj'
            cases hj'
            intro et
            rw [et, eqv_self (lf_shaped hlf (by omega))] at ce
            cases ce
      · rintro σ Hd ⟨g5, rfl, sd, hno⟩
        refine ⟨_, _, rfl, sc.trans (s4.trans sd), fun n xs' hn' hxs' => ?_⟩
        by_cases cn : n < k
        · exact htr n xs' cn hxs'
        · obtain rfl : n = k := by omega
          rw [hW] at hxs'
          cases hxs'
          refine ⟨fs, fne, fmust, fun j hj => ?_⟩
          obtain ⟨n, hn2, e⟩ := List.getElem_of_mem hj
          exact hno n j (by rw [List.length_map]; exact hn2) (by rw [List.getElem?_eq_getElem hn2, e])
    · rintro σ Hc ⟨g4, g5, rfl, sc, htr⟩
      refine q false Hc (s13.trans sc) (fun z => by cases z) fun _ _ => ?_
      refine tried_all hh hD hL fun xs hm => ?_
      obtain ⟨n, hn2, e⟩ := List.getElem_of_mem hm
      exact htr n xs (by rw [List.length_map, hrows.len]; exact hn2) (by rw [List.getElem?_eq_getElem hn2, e])
end
end TA

set_option Elab.async false
set_option maxRecDepth 100000
set_option maxHeartbeats 4000000
set_option linter.unusedVariables false
namespace HT
open PySem PySem.Calls PyProof.Rows
section
variable {prog : Program} {w : World} {A : Around} {E : Value → Shared → Prop} {s : Shared}
theorem turned_n1 {sl : Addr} {vl vu vs : Value} {R : Int × Int × Nat → Shared → Prop} (sh : s.heap.IsSliceOf sl vl vu vs) (pl : IsPart vl none) (pu : IsPart vu none) (ps : IsPart vs (some (-1))) (fin : R (0, -1, 1) s) :
    wpAny (model prog w) A (Builtin.Slice.sliceApplied (.ref sl) (pure ((1 : Nat) : Int))) R E s := by
  obtain ⟨o, ho, hc, hd⟩ := id sh
  unfold Builtin.Slice.sliceApplied Builtin.Slice.sliceFields
  refine wpAny_bind (wpAny_bind (wpAny_field ho hd (x := vl) rfl (wpAny_bind (wpAny_field ho hd (x := vu) rfl (wpAny_bind (wpAny_field ho hd (x := vs) rfl (wpAny_pure ?_)))))))
  refine wpAny_bind (slicePart_ ps ?_)
  show wpAny _ _ (if ((-1 : Int) == 0) = true then _ else _) _ _ s
  rw [if_neg (show ¬ ((-1 : Int) == 0) = true by decide)]
  refine wpAny_bind (slicePart_ pl (wpAny_bind (slicePart_ pu (wpAny_bind (wpAny_pure (wpAny_pure ?_))))))
  exact fin
theorem tup_turned1 {t sl : Addr} {v0 vl vu vs : Value} {R : Value → Shared → Prop} (ht : IsTup s.heap t #[v0]) (sh : s.heap.IsSliceOf sl vl vu vs) (pl : IsPart vl none) (pu : IsPart vu none) (ps : IsPart vs (some (-1)))
    (fin : R (.ref s.heap.objs.size) { s with heap := s.heap.push { cls := .type "tuple", data := .seq #[v0] } }) : wpAny (model prog w) A (getItem (.ref t) (.ref sl)) R E s := by
  have fits : sizeOk (.seq #[v0]) := by
    show 1 ≤ sizeLine
    decide
  obtain ⟨o, ho, hc, hd⟩ := id sh
  have isSl : s.TypeIs (.ref sl) "slice" := ⟨o, ho, hc⟩
  unfold getItem
  try with_reducible refine wpAny_holding ?_
  first | refine wpAny_bind (wpAny_pure ?_) | skip
  refine wpAny_bind (wpAny_sequenceKey ht.typeIs (by decide) ?_)
  refine wpAny_bind (wpAny_callSpecial?_slot (name := Str.ofString "__getitem__") ht.typeIs PyProof.Rows.slot_tuple_getitem (wpAny_call_entry PyProof.Rows.slot_tuple_getitem ht.typeIs entry_tuple_getitem ?_ (args_tuple_getitem _ _)))
  show wpAny _ _ (Builtin.Tuple.tupleItemsOf (.ref t) >>= _) _ _ s
  refine wpAny_bind (tupleItemsOf_ ht (wpAny_bind (wpAny_typeOf isSl ?_)))
  rw [if_pos (by decide)]
  refine wpAny_bind (turned_n1 sh pl pu ps ?_)
  show wpAny _ _ (if ((0 : Int) == 0 && (-1 : Int) == 1 && (1 : Nat) == 1) = true then _ else _) _ _ s
  rw [if_neg (by decide)]
  first
    | exact wpAny_bind (m := Builtin.Tuple.tupleExact _) (wpAny_newObj_type (wpAny_pure ⟨_, rfl, wpAny_pure fin⟩) fits)
    | exact wpAny_bind (m := Builtin.Tuple.tupleExact _) (wpAny_newObj_type (wpAny_bind (wpAny_pure (wpAny_pure ⟨_, rfl, wpAny_pure fin⟩))) fits)
    | exact wpAny_bind (wpAny_bind (m := Builtin.Tuple.tupleExact _) (wpAny_newObj_type (wpAny_pure (wpAny_pure ⟨_, rfl, wpAny_pure fin⟩)) fits))
    | exact wpAny_bind (wpAny_bind (m := Builtin.Tuple.tupleExact _) (wpAny_newObj_type (wpAny_pure ⟨_, rfl, wpAny_pure fin⟩) fits))
theorem turned_n2 {sl : Addr} {vl vu vs : Value} {R : Int × Int × Nat → Shared → Prop} (sh : s.heap.IsSliceOf sl vl vu vs) (pl : IsPart vl none) (pu : IsPart vu none) (ps : IsPart vs (some (-1))) (fin : R (1, -1, 2) s) :
    wpAny (model prog w) A (Builtin.Slice.sliceApplied (.ref sl) (pure ((2 : Nat) : Int))) R E s := by
  obtain ⟨o, ho, hc, hd⟩ := id sh
  unfold Builtin.Slice.sliceApplied Builtin.Slice.sliceFields
  refine wpAny_bind (wpAny_bind (wpAny_field ho hd (x := vl) rfl (wpAny_bind (wpAny_field ho hd (x := vu) rfl (wpAny_bind (wpAny_field ho hd (x := vs) rfl (wpAny_pure ?_)))))))
  refine wpAny_bind (slicePart_ ps ?_)
  show wpAny _ _ (if ((-1 : Int) == 0) = true then _ else _) _ _ s
  rw [if_neg (show ¬ ((-1 : Int) == 0) = true by decide)]
  refine wpAny_bind (slicePart_ pl (wpAny_bind (slicePart_ pu (wpAny_bind (wpAny_pure (wpAny_pure ?_))))))
  exact fin
theorem tup_turned2 {t sl : Addr} {v0 v1 vl vu vs : Value} {R : Value → Shared → Prop} (ht : IsTup s.heap t #[v0, v1]) (sh : s.heap.IsSliceOf sl vl vu vs) (pl : IsPart vl none) (pu : IsPart vu none) (ps : IsPart vs (some (-1)))
    (fin : R (.ref s.heap.objs.size) { s with heap := s.heap.push { cls := .type "tuple", data := .seq #[v1, v0] } }) : wpAny (model prog w) A (getItem (.ref t) (.ref sl)) R E s := by
  have fits : sizeOk (.seq #[v1, v0]) := by
    show 2 ≤ sizeLine
    decide
  obtain ⟨o, ho, hc, hd⟩ := id sh
  have isSl : s.TypeIs (.ref sl) "slice" := ⟨o, ho, hc⟩
  unfold getItem
  try with_reducible refine wpAny_holding ?_
  first | refine wpAny_bind (wpAny_pure ?_) | skip
  refine wpAny_bind (wpAny_sequenceKey ht.typeIs (by decide) ?_)
  refine wpAny_bind (wpAny_callSpecial?_slot (name := Str.ofString "__getitem__") ht.typeIs PyProof.Rows.slot_tuple_getitem (wpAny_call_entry PyProof.Rows.slot_tuple_getitem ht.typeIs entry_tuple_getitem ?_ (args_tuple_getitem _ _)))
  show wpAny _ _ (Builtin.Tuple.tupleItemsOf (.ref t) >>= _) _ _ s
  refine wpAny_bind (tupleItemsOf_ ht (wpAny_bind (wpAny_typeOf isSl ?_)))
  rw [if_pos (by decide)]
  refine wpAny_bind (turned_n2 sh pl pu ps ?_)
  show wpAny _ _ (if ((1 : Int) == 0 && (-1 : Int) == 1 && (2 : Nat) == 2) = true then _ else _) _ _ s
  rw [if_neg (by decide)]
  first
    | exact wpAny_bind (m := Builtin.Tuple.tupleExact _) (wpAny_newObj_type (wpAny_pure ⟨_, rfl, wpAny_pure fin⟩) fits)
    | exact wpAny_bind (m := Builtin.Tuple.tupleExact _) (wpAny_newObj_type (wpAny_bind (wpAny_pure (wpAny_pure ⟨_, rfl, wpAny_pure fin⟩))) fits)
    | exact wpAny_bind (wpAny_bind (m := Builtin.Tuple.tupleExact _) (wpAny_newObj_type (wpAny_pure (wpAny_pure ⟨_, rfl, wpAny_pure fin⟩)) fits))
    | exact wpAny_bind (wpAny_bind (m := Builtin.Tuple.tupleExact _) (wpAny_newObj_type (wpAny_pure ⟨_, rfl, wpAny_pure fin⟩) fits))
theorem turned_n3 {sl : Addr} {vl vu vs : Value} {R : Int × Int × Nat → Shared → Prop} (sh : s.heap.IsSliceOf sl vl vu vs) (pl : IsPart vl none) (pu : IsPart vu none) (ps : IsPart vs (some (-1))) (fin : R (2, -1, 3) s) :
    wpAny (model prog w) A (Builtin.Slice.sliceApplied (.ref sl) (pure ((3 : Nat) : Int))) R E s := by
  obtain ⟨o, ho, hc, hd⟩ := id sh
  unfold Builtin.Slice.sliceApplied Builtin.Slice.sliceFields
  refine wpAny_bind (wpAny_bind (wpAny_field ho hd (x := vl) rfl (wpAny_bind (wpAny_field ho hd (x := vu) rfl (wpAny_bind (wpAny_field ho hd (x := vs) rfl (wpAny_pure ?_)))))))
  refine wpAny_bind (slicePart_ ps ?_)
  show wpAny _ _ (if ((-1 : Int) == 0) = true then _ else _) _ _ s
  rw [if_neg (show ¬ ((-1 : Int) == 0) = true by decide)]
  refine wpAny_bind (slicePart_ pl (wpAny_bind (slicePart_ pu (wpAny_bind (wpAny_pure (wpAny_pure ?_))))))
  exact fin
theorem tup_turned3 {t sl : Addr} {v0 v1 v2 vl vu vs : Value} {R : Value → Shared → Prop} (ht : IsTup s.heap t #[v0, v1, v2]) (sh : s.heap.IsSliceOf sl vl vu vs) (pl : IsPart vl none) (pu : IsPart vu none) (ps : IsPart vs (some (-1)))
    (fin : R (.ref s.heap.objs.size) { s with heap := s.heap.push { cls := .type "tuple", data := .seq #[v2, v1, v0] } }) : wpAny (model prog w) A (getItem (.ref t) (.ref sl)) R E s := by
  have fits : sizeOk (.seq #[v2, v1, v0]) := by
    show 3 ≤ sizeLine
    decide
  obtain ⟨o, ho, hc, hd⟩ := id sh
  have isSl : s.TypeIs (.ref sl) "slice" := ⟨o, ho, hc⟩
  unfold getItem
  try with_reducible refine wpAny_holding ?_
  first | refine wpAny_bind (wpAny_pure ?_) | skip
  refine wpAny_bind (wpAny_sequenceKey ht.typeIs (by decide) ?_)
  refine wpAny_bind (wpAny_callSpecial?_slot (name := Str.ofString "__getitem__") ht.typeIs PyProof.Rows.slot_tuple_getitem (wpAny_call_entry PyProof.Rows.slot_tuple_getitem ht.typeIs entry_tuple_getitem ?_ (args_tuple_getitem _ _)))
  show wpAny _ _ (Builtin.Tuple.tupleItemsOf (.ref t) >>= _) _ _ s
  refine wpAny_bind (tupleItemsOf_ ht (wpAny_bind (wpAny_typeOf isSl ?_)))
  rw [if_pos (by decide)]
  refine wpAny_bind (turned_n3 sh pl pu ps ?_)
  show wpAny _ _ (if ((2 : Int) == 0 && (-1 : Int) == 1 && (3 : Nat) == 3) = true then _ else _) _ _ s
  rw [if_neg (by decide)]
  first
    | exact wpAny_bind (m := Builtin.Tuple.tupleExact _) (wpAny_newObj_type (wpAny_pure ⟨_, rfl, wpAny_pure fin⟩) fits)
    | exact wpAny_bind (m := Builtin.Tuple.tupleExact _) (wpAny_newObj_type (wpAny_bind (wpAny_pure (wpAny_pure ⟨_, rfl, wpAny_pure fin⟩))) fits)
    | exact wpAny_bind (wpAny_bind (m := Builtin.Tuple.tupleExact _) (wpAny_newObj_type (wpAny_pure (wpAny_pure ⟨_, rfl, wpAny_pure fin⟩)) fits))
    | exact wpAny_bind (wpAny_bind (m := Builtin.Tuple.tupleExact _) (wpAny_newObj_type (wpAny_pure ⟨_, rfl, wpAny_pure fin⟩) fits))
end
end HT
namespace L2
open PySem PySem.Spec PyProof.Rows
variable {X : Cx}
/-- t[::-1], t a tuple of one to three -/
def tRevG (K : PySem.W.Frag) (te : TE) : TE := fun σ H Q => te σ H fun x H1 => ∃ a xs, x = .ref a ∧ SqT K H1 a xs ∧ 1 ≤ xs.length ∧ xs.length ≤ 3 ∧ ∀ p, H1 p = none → Q (.ref p) (upd H1 p (.tup xs.reverse))
theorem pe_revG {e : Expr} {te : TE} {k : Nat} {p1 p2 p3 pos : Pos} (he : PE X e te) : PE X (.Subscript e (.Slice none none (some (.UnaryOp .USub (.Constant (.int 1) k p1) p2)) p3) pos) (tRevG X.K te) := by
  refine ⟨fun pins s σ H Q I h => ?_⟩
  refine Subscript_ (thn (he.run pins s σ H _ I h) fun v s1 ⟨x, H1, I1, r1, q1⟩ => ?_)
  obtain ⟨a, xs, rfl, hx, n1, n3, q⟩ := q1
  cases r1
  have back : PO X (some (.UnaryOp .USub (.Constant (.int 1) k p1) p2)) (tPart (tUn (rU fun i => .int (-i)) (tC (.int 1)))) := po_some (pe_un un_neg pe_int)
  refine wpAny_Slice (thn (po_none.run pins s1 σ H1 (fun o H2 => o = none ∧ H2 = H1) I1 ⟨rfl, rfl⟩) fun vl s2 ⟨l, H2, I2, pl, el, e2⟩ => ?_)
  subst el e2
  refine thn (po_none.run pins s2 σ H2 (fun o H3 => o = none ∧ H3 = H2) I2 ⟨rfl, rfl⟩) fun vu s3 ⟨u, H3, I3, pu, eu, e3⟩ => ?_
  subst eu e3
  refine thn (back.run pins s3 σ H3 (fun o H4 => o = some (-1) ∧ H4 = H3) I3 ⟨1, rfl, -1, rfl, rfl, rfl⟩) fun vs s4 ⟨o, H4, I4, ps, eo, e4⟩ => ?_
  subst eo e4
  have I5 : Inv X pins σ H4 { s4 with heap := s4.heap.push { cls := .type "slice", data := .fields #[vl, vu, vs] } } := I4.kept (t' := s4.toks) fun _ _ q => Heap.get?_push_of_some _ q
  obtain ⟨its, r, ht, hz⟩ := I5.tuple hx
  show wpAny (model X.prog X.w) X.A (subscriptTail e (.Slice none none (some (.UnaryOp .USub (.Constant (.int 1) k p1) p2)) p3) (.ref a) (.ref s4.heap.objs.size)) (EP X pins σ Q) X.xe { s4 with heap := s4.heap.push { cls := .type "slice", data := .fields #[vl, vu, vs] } }
  refine tail_any (ops := [.ref a, .ref s4.heap.objs.size]) ht.typeIs (PyProof.Rows.slot_tuple_getitem.lookup) ?_ (by with_unfolding_all rfl)
  cases r with
  | nil => exact absurd n1 (by decide)
  | cons a0 r => cases r with
    | nil =>
      refine HT.tup_turned1 ht (Heap.IsSliceOf.new _ vl vu vs) pl pu ps ?_
      refine ⟨.ref _, _, I5.laid (t' := s4.toks) (o := .tup [_]) (fun _ _ q => Heap.get?_push_of_some _ q) (Nat.le_refl _) ?_, rfl, q _ (I5.hok.fresh (Nat.le_refl _))⟩
      exact ⟨(by show 1 ≤ sizeLine; decide), _, .cons a0 .nil, IsTup.new _ _⟩
    | cons a1 r => cases r with
      | nil =>
        refine HT.tup_turned2 ht (Heap.IsSliceOf.new _ vl vu vs) pl pu ps ?_
        refine ⟨.ref _, _, I5.laid (t' := s4.toks) (o := .tup [_, _]) (fun _ _ q => Heap.get?_push_of_some _ q) (Nat.le_refl _) ?_, rfl, q _ (I5.hok.fresh (Nat.le_refl _))⟩
        exact ⟨(by show 2 ≤ sizeLine; decide), _, .cons a1 (.cons a0 .nil), IsTup.new _ _⟩
      | cons a2 r => cases r with
        | nil =>
          refine HT.tup_turned3 ht (Heap.IsSliceOf.new _ vl vu vs) pl pu ps ?_
          refine ⟨.ref _, _, I5.laid (t' := s4.toks) (o := .tup [_, _, _]) (fun _ _ q => Heap.get?_push_of_some _ q) (Nat.le_refl _) ?_, rfl, q _ (I5.hok.fresh (Nat.le_refl _))⟩
          exact ⟨(by show 3 ≤ sizeLine; decide), _, .cons a2 (.cons a1 (.cons a0 .nil)), IsTup.new _ _⟩
        | cons a3 r => exact absurd n3 (by simp)
end L2

set_option Elab.async false
set_option maxRecDepth 100000
set_option maxHeartbeats 4000000
namespace TA
open PySem PySem.Spec L2 PyProof.Rows
set_option linter.unusedVariables false
/-! the heap without the well -/
def cor (a : Addr) (H : Hp) : Hp := fun b => if b = a then none else H b
theorem cor_at {a b : Addr} {H : Hp} {o : HO} (n : b ≠ a) (h : H b = some o) : cor a H b = some o := by
  unfold cor
  rw [if_neg n]; exact h
theorem cor_same (a : Addr) (H : Hp) : Same (cor a H) H := fun b o h => by
  unfold cor at h
  by_cases e : b = a
  · rw [if_pos e] at h; cases h
  · rwa [if_neg e] at h
theorem But.cor {a : Addr} {H H' : Hp} (b : But a H H') : Same (cor a H) (cor a H') := fun c o h => by
  unfold TA.cor at h
  by_cases e : c = a
  · rw [if_pos e] at h; cases h
  · rw [if_neg e] at h
    exact cor_at e (b c o e h)
theorem Same.cor {a : Addr} {H H' : Hp} (b : Same H H') : Same (cor a H) (cor a H') := (But.same b).cor
structure Gd (K : PySem.W.Frag) (C : Hp) (N D : Nat) (v : V) : Prop where
  mk' ::
  ex : ∃ t, Dp K C v t ∧ lf t = true ∧ nds t ≤ N ∧ t.depth ≤ D
theorem Gd.mono {K : PySem.W.Frag} {C C' : Hp} {N D : Nat} {v : V} (s : Same C C') (g : Gd K C N D v) : Gd K C' N D v := by
  obtain ⟨t, a, b⟩ := g.ex
  exact ⟨t, dp_mono s _ _ a, b⟩
theorem lf_pair {d e : PyData} (h1 : lf d = true) (h2 : lf e = true) : lf (.tuple [d, e]) = true := by
  show ((!false && decide (2 ≤ 3)) && (lf d && (lf e && true))) = true
  rw [h1, h2]; rfl
theorem nds_pair (d e : PyData) : nds (.tuple [d, e]) = 1 + nds d + nds e := by
  show 1 + (nds d + (nds e + 0)) = _
  omega
theorem dep_pair (d e : PyData) : (PyData.tuple [d, e]).depth = max d.depth e.depth + 1 := by
  show max d.depth (max e.depth 0) + 1 = _
  rw [Nat.max_zero]
theorem depAll_app : ∀ as bs, PyData.depthAll (as ++ bs) = max (PyData.depthAll as) (PyData.depthAll bs)
  | [], bs => by show _ = max 0 _; rw [Nat.zero_max]; rfl
  | a :: as, bs => by
    show max a.depth (PyData.depthAll (as ++ bs)) = max (max a.depth (PyData.depthAll as)) (PyData.depthAll bs)
    rw [depAll_app as bs, Nat.max_assoc]
theorem rev_facts {K : PySem.W.Frag} {H : Hp} : ∀ (ds : List PyData) (xs : List V), DpAll K H xs ds → DpAll K H xs.reverse ds.reverse ∧ lfAll ds.reverse = lfAll ds ∧ ndsAll ds.reverse = ndsAll ds ∧ PyData.depthAll ds.reverse = PyData.depthAll ds
  | [], _, h => by cases h; exact ⟨.nil, rfl, rfl, rfl⟩
  | d :: ds, _, h => by
    cases h with
    | cons a b =>
      obtain ⟨h1, h2, h3, h4⟩ := rev_facts ds _ b
      rw [List.reverse_cons, List.reverse_cons]
      refine ⟨dpAll_app h1 (.cons a .nil), ?_, ?_, ?_⟩
      · rw [lfAll_app, h2]
        show (lfAll ds && (lf d && true)) = (lf d && lfAll ds)
        rw [Bool.and_true, Bool.and_comm]
      · rw [ndsAll_app, h3]
        show ndsAll ds + (nds d + 0) = nds d + ndsAll ds
        omega
      · rw [depAll_app, h4]
        show max (PyData.depthAll ds) (max d.depth 0) = max d.depth (PyData.depthAll ds)
        omega
theorem all_parts {K : PySem.W.Frag} {H : Hp} : ∀ (ds : List PyData) (xs : List V), DpAll K H xs ds → lfAll ds = true → ∀ x ∈ xs, ∃ d, Dp K H x d ∧ lf d = true ∧ nds d ≤ ndsAll ds ∧ d.depth ≤ PyData.depthAll ds
  | [], _, h, _, x, m => by cases h; cases m
  | d :: ds, _, h, l, x, m => by
    obtain ⟨l1, l2⟩ := Bool.and_eq_true_iff.mp (show (lf d && lfAll ds) = true from l)
    cases h with
    | cons a b =>
      rcases List.mem_cons.mp m with rfl | m
      · exact ⟨d, a, l1, by show _ ≤ nds d + _; omega, by show _ ≤ max d.depth _; omega⟩
      · obtain ⟨e, h1, h2, h3, h4⟩ := all_parts ds _ b l2 x m
        exact ⟨e, h1, h2, by show _ ≤ nds d + _; omega, by show _ ≤ max d.depth _; omega⟩
theorem ends_at {xs : List V} (n1 : 1 ≤ xs.length) (n3 : xs.length ≤ 3) : (∃ z ∈ xs, atI xs 0 = some z) ∧ ∃ z ∈ xs, atI xs (-1) = some z := by
  match xs, n1, n3 with
  | [x], _, _ => exact ⟨⟨x, by simp, rfl⟩, ⟨x, by simp, rfl⟩⟩
  | [x, y], _, _ => exact ⟨⟨x, by simp, rfl⟩, ⟨y, by simp, rfl⟩⟩
  | [x, y, z], _, _ => exact ⟨⟨x, by simp, rfl⟩, ⟨z, by simp, rfl⟩⟩
  | _ :: _ :: _ :: _ :: _, _, n3 => exact absurd n3 (by simp)
def spSpoilt (K : PySem.W.Frag) (n : Nat) : Sp := fun vs H Q _ => ∃ (a : Addr) (m : Int) (v ov : V) (t o : PyData), vs = [.ref a, v, ov] ∧ WellAt H a m ∧ 0 ≤ m ∧ m + 3 * ((n : Int) + 1) ≤ 900000 ∧ Dp K (cor a H) v t ∧ Dp K (cor a H) ov o ∧ lf t = true ∧ lf o = true ∧ nds o ≤ 7 ∧ o.depth ≤ 3 ∧ t.depth ≤ n ∧ nds t ≤ 60 ∧
  ∀ (v' : V) (t' : PyData) (H' : Hp), But a H H' → WellAt H' a (m + 3 * ((n : Int) + 1)) → Dp K (cor a H') v' t' → lf t' = true → nds t' ≤ 2 * nds t + 9 → t'.depth ≤ t.depth + 4 → Q v' H'
section
variable {P : Program} {w : World} {K : PySem.W.Frag} {mg : Str → Option Value} {base : Heap}
abbrev nSpo : List Str := ["_law_well_here", "_law_thing", "_law_other", "_law_some"]
theorem scSpo : FnScope nSpo ["_law_well_here", "_law_thing", "_law_other"] (defScope sSpoilt) := ⟨rfl, rfl, rfl, by decide +kernel, rfl, by decide +kernel, by decide +kernel⟩
theorem spoilt_end {f g2 : Addr} {d2 : FuncData} {cdv : Value} {A : Around} {outer : List Env} {s : Shared} {H : Hp} {Q : VK} {E : XK} {k : Nat} (hr : Room (k + 2) (A.deeper (envOfC "_law_spoilt" (defScope sSpoilt) s.heap.objs.size f cdv)))
    (D2 : Def P w K mg base "_law_one" ["_law_well_here", "_law_some"] 2 spOne2 g2 d2) {a : Addr} {m : Int} {v ov : V} {N D : Nat} (hm : m ≤ 900000)
    (q : ∀ v' H', But a H H' → WellAt H' a (m + 2) → Gd K (cor a H') N D v' → Q v' H') :
    ∃ t, PSs (cxOf CX0 P w K mg base nSpo "_law_spoilt" (defScope sSpoilt) f cdv A outer s H E).nox ((defBody sSpoilt).drop 4) t ∧ ∀ (H1 : Hp) (l : Addr) (xs : List V), But a H H1 → WellAt H1 a (m + 1) → H1 l = some (.lst xs) → a ≠ l → 0 < xs.length → xs.length < 1000 → (∀ x ∈ xs, Gd K (cor a H1) N D x) →
      t { nx := fun _ H' => Q .non H', rt := Q } [some (.ref a), some v, some ov, some (.ref l)] H1 := by
  have nd := scSpo.nd
  refine ⟨_, pss_one (ps_ret (pe_call D2.G (hr.mono (by omega)) rfl D2.m D2.k D2.b .nil pass0 (pa_cons (pv 0) (pa_cons (pv 3) pa_nil)))), fun H1 l xs b1 w1 hl nal n0 n1 hg => ?_⟩
  refine ⟨_, rfl, _, rfl, a, l, _, xs, rfl, w1, by omega, hl, nal, n0, n1, fun i u H2 hx b2 w2 => ?_⟩
  refine q u H2 (b1.trans b2) (by rw [show m + 2 = m + 1 + 1 by omega]; exact w2) ((hg u (List.mem_of_getElem? hx)).mono b2.cor)
end
end TA

set_option Elab.async false
set_option maxRecDepth 100000
set_option maxHeartbeats 4000000
namespace TA
open PySem PySem.Spec L2 PyProof.Rows
set_option linter.unusedVariables false
section
variable {P : Program} {w : World} {K : PySem.W.Frag} {mg : Str → Option Value} {base : Heap}
theorem gd_mk {C : Hp} {N D : Nat} {v : V} {t : PyData} (a : Dp K C v t) (b : lf t = true) (c : nds t ≤ N) (d : t.depth ≤ D) : Gd K C N D v := ⟨t, a, b, c, d⟩
theorem spoilt_tail {f g2 : Addr} {d2 : FuncData} {cdv : Value} {A : Around} {outer : List Env} {s : Shared} {H : Hp} {Q : VK} {E : XK} {k : Nat} (hr : Room (k + 2) (A.deeper (envOfC "_law_spoilt" (defScope sSpoilt) s.heap.objs.size f cdv))) (T : Txt K mg)
    (D2 : Def P w K mg base "_law_one" ["_law_well_here", "_law_some"] 2 spOne2 g2 d2) {a : Addr} {m : Int} {v ov : V} {t o : PyData} (hm : m ≤ 900000) (hW : WellAt H a m) (kt : Dp K (cor a H) v t) (ko : Dp K (cor a H) ov o) (lt : lf t = true) (lo : lf o = true) (no : nds o ≤ 7) (dO : o.depth ≤ 3)
    (q : ∀ v' H', But a H H' → WellAt H' a (m + 2) → Gd K (cor a H') (2 * nds t + 9) (t.depth + 4) v' → Q v' H') :
    ∃ tm, PSs (cxOf CX0 P w K mg base nSpo "_law_spoilt" (defScope sSpoilt) f cdv A outer s H E).nox ((defBody sSpoilt).drop 1) tm ∧ ∀ (H1 : Hp), But a H H1 → WellAt H1 a (m + 1) → tm { nx := fun _ H' => Q .non H', rt := Q } [some (.ref a), some v, some ov, none] H1 := by
  have nd := scSpo.nd
  obtain ⟨tR, pR, qR⟩ := spoilt_end (P := P) (w := w) (K := K) (mg := mg) (base := base) (cdv := cdv) (outer := outer) (E := E) hr D2 (v := v) (ov := ov) hm q
  refine ⟨_, pss_cons (ps_set (i := 3) nd rfl (Or.inl rfl) (pe_lst (pa_cons pe_non (pa_cons (pv 2) (pa_cons (pe_tup (pa_cons (pv 1) (pa_cons pe_non pa_nil))) (pa_cons (pe_tup (pa_cons (pv 1) (pa_cons (pv 1) pa_nil))) (pa_cons (pe_tup (pa_cons (pv 1) (pa_cons (pv 2) pa_nil))) (pa_cons pe_bl (pa_cons (pe_un un_neg pe_int) (pa_cons pe_str (pa_cons (pe_lst (pa_cons (pv 1) (pa_cons pe_non pa_nil))) pa_nil)))))))))))
    (pss_cons (ps_expr (pe_bm PySem.F.plainAttrs_list PySem.F.slot_list_append PySem.F.type_list_append mt_append (pv 3) (pa_cons (pe_tup (pa_cons (pv 1) (pa_cons pe_non (pa_cons pe_non pa_nil)))) pa_nil)))
    (pss_cons (ps_if (pt_val (pe_callB call_isi (by rfl) T.isi boot_isinstance (pa_cons (pv 1) (pa_cons (pe_bltn (v := .ty "tuple") (by rfl) T.tuple boot_tuple rfl) pa_nil))))
      (pss_one (ps_set (i := 3) nd rfl (Or.inl rfl) (pe_op op_cat (pv 3) (pe_op op_rep (pe_lst (pa_cons (pe_ix ix_tup (pv 1) pe_int (fun _ _ => rfl)) (pa_cons (pe_ix ix_tup (pv 1) (pe_un un_neg pe_int) (fun _ _ => rfl)) (pa_cons (pe_revG (pv 1)) (pa_cons (pe_callTy call_list_of (by rfl) T.list boot_list (pa_cons (pv 1) pa_nil)) (pa_cons (pe_tup (pa_cons (pe_ix ix_tup (pv 1) pe_int (fun _ _ => rfl)) pa_nil)) pa_nil)))))) pe_int))))
      (pss_one (ps_set (i := 3) nd rfl (Or.inl rfl) (pe_op op_cat (pv 3) (pe_lst (pa_cons pe_int (pa_cons pe_int (pa_cons pe_int (pa_cons pe_int (pa_cons pe_int (pa_cons pe_int pa_nil))))))))))) pR)), fun H1 b1 w1 => ?_⟩
  have pt := nds_pos t
  have hnon : lf PyData.none = true := rfl
  obtain ⟨wx, wy, wz, ea1, _⟩ := id w1
  refine ⟨_, rfl, _, rfl, (by show 2 ≤ sizeLine; decide), fun t1 h1 => ?_⟩
  have s1 := same_new h1 (.tup [v, V.non])
  have e1 : upd H1 t1 (.tup [v, V.non]) t1 = some (.tup [v, V.non]) := upd_same
  have n1 : t1 ≠ a := (ne_of_none ea1 h1).symm
  have ea2 := s1 _ _ ea1
  have w2 := w1.same s1
  generalize upd H1 t1 (.tup [v, V.non]) = H2 at s1 e1 ea2 w2 ⊢
  refine ⟨_, rfl, _, rfl, (by show 2 ≤ sizeLine; decide), fun t2 h2 => ?_⟩
  have s2 := same_new h2 (.tup [v, v])
  have e2 : upd H2 t2 (.tup [v, v]) t2 = some (.tup [v, v]) := upd_same
  have n2 : t2 ≠ a := (ne_of_none ea2 h2).symm
  have ea3 := s2 _ _ ea2
  have w3 := w2.same s2
  generalize upd H2 t2 (.tup [v, v]) = H3 at s2 e2 ea3 w3 ⊢
  refine ⟨_, rfl, _, rfl, (by show 2 ≤ sizeLine; decide), fun t3 h3 => ?_⟩
  have s3 := same_new h3 (.tup [v, ov])
  have e3 : upd H3 t3 (.tup [v, ov]) t3 = some (.tup [v, ov]) := upd_same
  have n3 : t3 ≠ a := (ne_of_none ea3 h3).symm
  have ea4 := s3 _ _ ea3
  have w4 := w3.same s3
  generalize upd H3 t3 (.tup [v, ov]) = H4 at s3 e3 ea4 w4 ⊢
  refine ⟨_, rfl, _, rfl, (by show 2 ≤ sizeLine; decide), fun l4 h4 => ?_⟩
  have s4 := same_new h4 (.lst [v, V.non])
  have e4 : upd H4 l4 (.lst [v, V.non]) l4 = some (.lst [v, V.non]) := upd_same
  have n4 : l4 ≠ a := (ne_of_none ea4 h4).symm
  have ea5 := s4 _ _ ea4
  have w5 := w4.same s4
  generalize upd H4 l4 (.lst [v, V.non]) = H5 at s4 e4 ea5 w5 ⊢
  refine ⟨(by show 9 ≤ sizeLine; decide), fun l h5 => ?_⟩
  have s5 := same_new h5 (.lst [V.non, ov, V.ref t1, V.ref t2, V.ref t3, V.bl true, V.int (-1), V.str "1", V.ref l4])
  have e5 : upd H5 l (.lst [V.non, ov, V.ref t1, V.ref t2, V.ref t3, V.bl true, V.int (-1), V.str "1", V.ref l4]) l = some (.lst [V.non, ov, V.ref t1, V.ref t2, V.ref t3, V.bl true, V.int (-1), V.str "1", V.ref l4]) := upd_same
  have n5 : l ≠ a := (ne_of_none ea5 h5).symm
  have ea6 := s5 _ _ ea5
  have w6 := w5.same s5
  generalize upd H5 l (.lst [V.non, ov, V.ref t1, V.ref t2, V.ref t3, V.bl true, V.int (-1), V.str "1", V.ref l4]) = H6 at s5 e5 ea6 w6 ⊢
  refine ⟨_, rfl, .inl ⟨rfl, _, SqL.of e5⟩, _, rfl, (by show 3 ≤ sizeLine; decide), fun t6 h6 => ?_⟩
  have s6 := same_new h6 (.tup [v, V.non, V.non])
  have e6 : upd H6 t6 (.tup [v, V.non, V.non]) t6 = some (.tup [v, V.non, V.non]) := upd_same
  have n6 : t6 ≠ a := (ne_of_none ea6 h6).symm
  have n65 : t6 ≠ l := (ne_of_none e5 h6).symm
  have e57 := s6 _ _ e5
  have ea7 := s6 _ _ ea6
  have w7 := w6.same s6
  generalize upd H6 t6 (.tup [v, V.non, V.non]) = H7 at s6 e6 e57 ea7 w7 ⊢
  refine ⟨l, _, _, rfl, rfl, e57, (by show 9 + 1 ≤ sizeLine; decide), ?_⟩
  have sAll : Same H1 H7 := s1.trans (s2.trans (s3.trans (s4.trans (s5.trans s6))))
  have bL : But a H (upd H7 l (.lst ([V.non, ov, V.ref t1, V.ref t2, V.ref t3, V.bl true, V.int (-1), V.str "1", V.ref l4] ++ [V.ref t6]))) := fun c u nc hc => by
    have h7 := sAll _ _ (b1 c u nc hc)
    have : c ≠ l := by
      have h0 : H5 c = some u := s4 _ _ (s3 _ _ (s2 _ _ (s1 _ _ (b1 c u nc hc))))
      exact ne_of_none h0 h5
    rw [upd_ne this]
    exact h7
  have kt7 : Dp K (cor a H7) v t := dp_mono (b1.cor.trans (Same.cor sAll)) _ _ kt
  have ko7 : Dp K (cor a H7) ov o := dp_mono (b1.cor.trans (Same.cor sAll)) _ _ ko
  -- what lies but for the list itself
  have ex : ∀ {c : Addr} {u : HO}, c ≠ l → c ≠ a → H7 c = some u → cor a (upd H7 l (.lst ([V.non, ov, V.ref t1, V.ref t2, V.ref t3, V.bl true, V.int (-1), V.str "1", V.ref l4] ++ [V.ref t6]))) c = some u := fun n na h => cor_at na (by rw [upd_ne n]; exact h)
  have kt8 : Dp K (cor a (upd H7 l (.lst ([V.non, ov, V.ref t1, V.ref t2, V.ref t3, V.bl true, V.int (-1), V.str "1", V.ref l4] ++ [V.ref t6])))) v t := dp_mono bL.cor _ _ kt
  have ko8 : Dp K (cor a (upd H7 l (.lst ([V.non, ov, V.ref t1, V.ref t2, V.ref t3, V.bl true, V.int (-1), V.str "1", V.ref l4] ++ [V.ref t6])))) ov o := dp_mono bL.cor _ _ ko
  have d1 := ex (ne_of_none (s4 _ _ (s3 _ _ (s2 _ _ e1))) h5) n1 (s6 _ _ (s5 _ _ (s4 _ _ (s3 _ _ (s2 _ _ e1)))))
  have d2 := ex (ne_of_none (s4 _ _ (s3 _ _ e2)) h5) n2 (s6 _ _ (s5 _ _ (s4 _ _ (s3 _ _ e2))))
  have d3 := ex (ne_of_none (s4 _ _ e3) h5) n3 (s6 _ _ (s5 _ _ (s4 _ _ e3)))
  have d4 := ex (ne_of_none e4 h5) n4 (s6 _ _ (s5 _ _ e4))
  have d6 := ex n65 n6 e6
  have e8 : upd H7 l (.lst ([V.non, ov, V.ref t1, V.ref t2, V.ref t3, V.bl true, V.int (-1), V.str "1", V.ref l4] ++ [V.ref t6])) l = some (.lst [V.non, ov, V.ref t1, V.ref t2, V.ref t3, V.bl true, V.int (-1), V.str "1", V.ref l4, V.ref t6]) := upd_same
  have w8 : WellAt (upd H7 l (.lst ([V.non, ov, V.ref t1, V.ref t2, V.ref t3, V.bl true, V.int (-1), V.str "1", V.ref l4] ++ [V.ref t6]))) a (m + 1) := w7.upd n5.symm
  clear ex
  generalize upd H7 l (.lst ([V.non, ov, V.ref t1, V.ref t2, V.ref t3, V.bl true, V.int (-1), V.str "1", V.ref l4] ++ [V.ref t6])) = H8 at bL kt8 ko8 d1 d2 d3 d4 d6 e8 w8 ⊢
  have lf1 : lf (.str "1") = true := by decide +kernel
  have good10 : ∀ x ∈ [V.non, ov, V.ref t1, V.ref t2, V.ref t3, V.bl true, V.int (-1), V.str "1", V.ref l4, V.ref t6], Gd K (cor a H8) (2 * nds t + 9) (t.depth + 4) x := by
    intro x hx
    simp only [List.mem_cons, List.not_mem_nil, or_false] at hx
    rcases hx with rfl | rfl | rfl | rfl | rfl | rfl | rfl | rfl | rfl | rfl
    · exact gd_mk .non rfl (by show 1 ≤ _; omega) (Nat.zero_le _)
    · exact gd_mk ko8 lo (by omega) (by omega)
    · exact gd_mk (t := .tuple [t, .none]) (.tup (SqT.of d1) (.cons kt8 (.cons .non .nil))) (lf_pair lt hnon) (by rw [nds_pair]; show 1 + nds t + 1 ≤ _; omega) (by rw [dep_pair]; show max t.depth 0 + 1 ≤ _; omega)
    · exact gd_mk (t := .tuple [t, t]) (.tup (SqT.of d2) (.cons kt8 (.cons kt8 .nil))) (lf_pair lt lt) (by rw [nds_pair]; omega) (by rw [dep_pair]; omega)
    · exact gd_mk (t := .tuple [t, o]) (.tup (SqT.of d3) (.cons kt8 (.cons ko8 .nil))) (lf_pair lt lo) (by rw [nds_pair]; omega) (by rw [dep_pair]; omega)
    · exact gd_mk (.bl true) rfl (by show 1 ≤ _; omega) (Nat.zero_le _)
    · exact gd_mk (.int (-1)) (by decide +kernel) (by show 1 ≤ _; omega) (Nat.zero_le _)
    · exact gd_mk (.str "1") lf1 (by show 1 ≤ _; omega) (Nat.zero_le _)
    · exact gd_mk (t := .list [t, .none]) (.lst (SqL.of d4) (.cons kt8 (.cons .non .nil))) (by show (true && (lf t && true)) = true; rw [lt]; rfl) (by show 1 + (nds t + (1 + 0)) ≤ _; omega) (by show max t.depth (max 0 0) + 1 ≤ _; omega)
    · exact gd_mk (t := .tuple [t, .none, .none]) (.tup (SqT.of d6) (.cons kt8 (.cons .non (.cons .non .nil)))) (by show (true && (lf t && true)) = true; rw [lt]; rfl) (by show 1 + (nds t + (1 + (1 + 0))) ≤ _; omega) (by show max t.depth (max 0 (max 0 0)) + 1 ≤ _; omega)
  have kt9 : Dp K H8 v t := dp_mono (cor_same a H8) _ _ kt8
  refine ⟨_, rfl, v, V.ty "tuple", _, _, isTupD t, rfl, .ty "tuple", dp_ty kt9, kit_tup t, _, rfl, ?_⟩
  obtain ⟨xa, xb, xc, ea8, _⟩ := id w8
  cases cs : isTupD t with
  | false =>
    refine iteF ⟨_, rfl, (by show 6 ≤ sizeLine; decide), fun z hz => ?_⟩
    have u1 := same_new hz (.lst [V.int 0, V.int 1, V.int 2, V.int 3, V.int 1, V.int 2])
    refine ⟨l, z, _, _, rfl, rfl, u1 _ _ e8, upd_same, (by show 10 + 6 ≤ sizeLine; decide), fun c hc => ?_⟩
    have u2 := u1.trans (same_new hc (.lst ([V.non, ov, V.ref t1, V.ref t2, V.ref t3, V.bl true, V.int (-1), V.str "1", V.ref l4, V.ref t6] ++ [V.int 0, V.int 1, V.int 2, V.int 3, V.int 1, V.int 2])))
    have nca : a ≠ c := ne_of_none (u1 _ _ ea8) hc
    refine qR _ c _ (bL.trans (But.same u2)) (w8.same u2) upd_same nca (by show 0 < 16; decide) (by show 16 < 1000; decide) fun x hx => ?_
    rcases List.mem_append.mp hx with h | h
    · exact (good10 x h).mono (Same.cor u2)
    · simp only [List.mem_cons, List.not_mem_nil, or_false] at h
      rcases h with rfl | rfl | rfl | rfl | rfl | rfl
      all_goals exact gd_mk (.int _) (by decide +kernel) (by show 1 ≤ _; omega) (Nat.zero_le _)
  | true =>
    obtain ⟨ds, rfl⟩ : ∃ ds, t = .tuple ds := by cases t <;> first | exact ⟨_, rfl⟩ | cases cs
    obtain ⟨b, xs, rfl, hsq, hps⟩ := dp_tup kt8
    have hsq8 : SqT K H8 b xs := seqT_mono (cor_same a H8) hsq
    have lt' : ((!ds.isEmpty && decide (ds.length ≤ 3)) && lfAll ds) = true := lt
    obtain ⟨l1, l2⟩ := Bool.and_eq_true_iff.mp lt'
    obtain ⟨l3, l4'⟩ := Bool.and_eq_true_iff.mp l1
    have len3 := of_decide_eq_true l4'
    have len1 : 1 ≤ ds.length := by cases ds with | nil => cases l3 | cons _ _ => simp
    have lx := dpAll_len hps
    obtain ⟨⟨z0, hz0, a0⟩, ⟨z1, hz1, a1⟩⟩ := ends_at (xs := xs) (by omega) (by omega)
    have en : nds (.tuple ds) = 1 + ndsAll ds := by simp [nds]
    have ed : (PyData.tuple ds).depth = PyData.depthAll ds + 1 := rfl
    have part : ∀ z ∈ xs, ∃ d, Dp K (cor a H8) z d ∧ lf d = true ∧ nds d ≤ ndsAll ds ∧ d.depth ≤ PyData.depthAll ds := all_parts ds xs hps l2
    refine iteT ⟨_, rfl, _, rfl, b, _, _, _, rfl, rfl, hsq8, a0, _, rfl, _, rfl, b, _, _, _, rfl, rfl, hsq8, a1, _, rfl, b, xs, rfl, hsq8, by omega, by omega, fun r hr0 => ?_⟩
    have u1 := same_new hr0 (.tup xs.reverse)
    refine ⟨_, rfl, b, xs, rfl, .inr (seqT_mono u1 hsq8), fun y hy => ?_⟩
    have u2 := u1.trans (same_new hy (.lst xs))
    refine ⟨_, rfl, b, _, _, _, rfl, rfl, seqT_mono u2 hsq8, a0, (by show 1 ≤ sizeLine; decide), fun e he => ?_⟩
    have u3 := u2.trans (same_new he (.tup [z0]))
    refine ⟨(by show 5 ≤ sizeLine; decide), fun g hg => ?_⟩
    have u4 := u3.trans (same_new hg (.lst [z0, z1, V.ref r, V.ref y, V.ref e]))
    refine ⟨g, 2, _, rfl, rfl, upd_same, by decide, by decide, (by show 5 * 2 ≤ sizeLine; decide), fun g2 hg2 => ?_⟩
    have u5 := u4.trans (same_new hg2 (.lst (List.replicate (2 : Int).toNat [z0, z1, V.ref r, V.ref y, V.ref e]).flatten))
    refine ⟨l, g2, _, _, rfl, rfl, u5 _ _ e8, upd_same, (by show 10 + 10 ≤ sizeLine; decide), fun c hc => ?_⟩
    have u6 := u5.trans (same_new hc (.lst ([V.non, ov, V.ref t1, V.ref t2, V.ref t3, V.bl true, V.int (-1), V.str "1", V.ref l4, V.ref t6] ++ (List.replicate (2 : Int).toNat [z0, z1, V.ref r, V.ref y, V.ref e]).flatten)))
    have nca : a ≠ c := ne_of_none (u5 _ _ ea8) hc
    have nra : r ≠ a := (ne_of_none ea8 hr0).symm
    have nya : y ≠ a := (ne_of_none (u1 _ _ ea8) hy).symm
    have nea : e ≠ a := (ne_of_none (u2 _ _ ea8) he).symm
    have er := same_new hc (.lst ([V.non, ov, V.ref t1, V.ref t2, V.ref t3, V.bl true, V.int (-1), V.str "1", V.ref l4, V.ref t6] ++ (List.replicate (2 : Int).toNat [z0, z1, V.ref r, V.ref y, V.ref e]).flatten)) _ _ (same_new hg2 (.lst (List.replicate (2 : Int).toNat [z0, z1, V.ref r, V.ref y, V.ref e]).flatten) _ _ (same_new hg (.lst [z0, z1, V.ref r, V.ref y, V.ref e]) _ _ (same_new he (.tup [z0]) _ _ (same_new hy (.lst xs) _ _ (upd_same (H := H8) (a := r) (o := .tup xs.reverse))))))
    have ey := same_new hc (.lst ([V.non, ov, V.ref t1, V.ref t2, V.ref t3, V.bl true, V.int (-1), V.str "1", V.ref l4, V.ref t6] ++ (List.replicate (2 : Int).toNat [z0, z1, V.ref r, V.ref y, V.ref e]).flatten)) _ _ (same_new hg2 (.lst (List.replicate (2 : Int).toNat [z0, z1, V.ref r, V.ref y, V.ref e]).flatten) _ _ (same_new hg (.lst [z0, z1, V.ref r, V.ref y, V.ref e]) _ _ (same_new he (.tup [z0]) _ _ (upd_same (a := y) (o := .lst xs)))))
    have ee := same_new hc (.lst ([V.non, ov, V.ref t1, V.ref t2, V.ref t3, V.bl true, V.int (-1), V.str "1", V.ref l4, V.ref t6] ++ (List.replicate (2 : Int).toNat [z0, z1, V.ref r, V.ref y, V.ref e]).flatten)) _ _ (same_new hg2 (.lst (List.replicate (2 : Int).toNat [z0, z1, V.ref r, V.ref y, V.ref e]).flatten) _ _ (same_new hg (.lst [z0, z1, V.ref r, V.ref y, V.ref e]) _ _ (upd_same (a := e) (o := .tup [z0]))))
    refine qR _ c _ (bL.trans (But.same u6)) (w8.same u6) upd_same nca (by show 0 < 10 + 10; decide) (by show 10 + 10 < 1000; decide) fun x hx => ?_
    rcases List.mem_append.mp hx with h | h
    · exact (good10 x h).mono (Same.cor u6)
    · have h' : x ∈ [z0, z1, V.ref r, V.ref y, V.ref e] := by
        obtain ⟨L, hL, hxL⟩ := List.mem_flatten.mp h
        rw [(List.mem_replicate.mp hL).2] at hxL
        exact hxL
      have mono := Same.cor (a := a) u6
      have hps6 := dpAll_mono mono _ _ hps
      obtain ⟨rv1, rv2, rv3, rv4⟩ := rev_facts ds xs hps6
      simp only [List.mem_cons, List.not_mem_nil, or_false] at h'
      rcases h' with rfl | rfl | rfl | rfl | rfl
      · obtain ⟨d, g1, g2, g3, g4⟩ := part _ hz0
        exact gd_mk (dp_mono mono _ _ g1) g2 (by omega) (by omega)
      · obtain ⟨d, g1, g2, g3, g4⟩ := part _ hz1
        exact gd_mk (dp_mono mono _ _ g1) g2 (by omega) (by omega)
      · refine gd_mk (t := .tuple ds.reverse) (.tup (SqT.of (cor_at nra er)) rv1) ?_ ?_ ?_
        · show ((!ds.reverse.isEmpty && decide (ds.reverse.length ≤ 3)) && lfAll ds.reverse) = true
          rw [rv2, l2, List.length_reverse, decide_eq_true len3, List.isEmpty_reverse, l3]; rfl
        · rw [show nds (.tuple ds.reverse) = 1 + ndsAll ds.reverse by simp [nds], rv3]; omega
        · show PyData.depthAll ds.reverse + 1 ≤ _
          rw [rv4]; omega
      · refine gd_mk (t := .list ds) (.lst (SqL.of (cor_at nya ey)) hps6) ?_ ?_ ?_
        · show (!ds.isEmpty && lfAll ds) = true
          rw [l3, l2]; rfl
        · rw [show nds (.list ds) = 1 + ndsAll ds by simp [nds]]; omega
        · show PyData.depthAll ds + 1 ≤ _
          omega
      · obtain ⟨d, g1, g2, g3, g4⟩ := part _ hz0
        refine gd_mk (t := .tuple [d]) (.tup (SqT.of (cor_at nea ee)) (.cons (dp_mono mono _ _ g1) .nil)) ?_ ?_ ?_
        · show (true && (lf d && true)) = true
          rw [g2]; rfl
        · show 1 + (nds d + 0) ≤ _
          omega
        · show max d.depth 0 + 1 ≤ _
          omega
end
end TA

set_option Elab.async false
set_option maxRecDepth 100000
set_option maxHeartbeats 4000000
namespace TA
open PySem PySem.Spec L2 PyProof.Rows
set_option linter.unusedVariables false
section
variable {P : Program} {w : World} {K : PySem.W.Frag} {mg : Str → Option Value} {base : Heap}
theorem ok_spoilt {f g1 g2 : Addr} {fd d1 d2 : FuncData} (F : Fun K "_law_spoilt" "_law_spoilt" sSpoilt f fd) (T : Txt K mg) (D1 : Def P w K mg base "_law_draw" ["_law_well_here", "_law_many"] 1 spDraw2 g1 d1) (D2 : Def P w K mg base "_law_one" ["_law_well_here", "_law_some"] 2 spOne2 g2 d2)
    (bF : Binds K fd ["_law_well_here", "_law_thing", "_law_other"] []) (kF : PySem.W.keepIn K (.ref f) = true) (mF : mg "_law_spoilt" = some (.ref f)) :
    ∀ n, FnOk P w K mg base CX0 (3 + n) f fd ["_law_well_here", "_law_thing", "_law_other"] (spSpoilt K n)
  | 0 => by
    refine F.ok (k := 2) scSpo (fun vs H Q E h => ?_) (fun cdv A outer s H vs Q E hr h => ?_)
    · obtain ⟨a, m, v, ov, t, o, rfl, _⟩ := h
      rfl
    obtain ⟨a, m, v, ov, t, o, rfl, hW, hm0, hm, kt, ko, lt, lo, no, dO, dt, hn, q⟩ := h
    have nd := scSpo.nd
    obtain ⟨tT, pT, qT⟩ := spoilt_tail (P := P) (w := w) (K := K) (mg := mg) (base := base) (cdv := cdv) (outer := outer) (E := E) (k := 0) (Q := Q) hr T D2 (by omega) hW kt ko lt lo no dO (fun v' H' b w' g => by
      obtain ⟨t', g1, g2, g3, g4⟩ := g.ex
      exact q v' t' H' b (w'.up (by omega)) g1 g2 g3 g4)
    refine ⟨_, pss_cons (ps_if (PW.pt (pw_and (pt_val (pe_callB call_isi (by rfl) T.isi boot_isinstance (pa_cons (pv 1) (pa_cons (pe_bltn (v := .ty "tuple") (by rfl) T.tuple boot_tuple rfl) pa_nil)))) (pw_and (pt_cmpR op_eq (pe_callB call_len_seq (by rfl) T.len PySem.boot_len (pa_cons (pv 1) pa_nil)) pe_int (nomark _)) (pw_and1 (pt_cmpR op_gt (pe_call D1.G (hr.mono (by omega)) rfl D1.m D1.k D1.b .nil pass0 (pa_cons (pv 0) (pa_cons pe_int pa_nil))) pe_int (nomark _)))))) pss_never pss_nil) pT, ?_⟩
    have cs : isTupD t = false := by
      cases t with
      | tuple ds => exact absurd dt (by show ¬ PyData.depthAll ds + 1 ≤ 0; omega)
      | _ => rfl
    refine ⟨_, rfl, v, V.ty "tuple", _, _, false, rfl, .ty "tuple", dp_ty (dp_mono (cor_same a H) _ _ kt), (by rw [kit_tup, cs]), _, rfl, iteF (iteF ?_)⟩
    exact qT H (But.same (Same.refl H)) (hW.up (by omega))
  | n + 1 => by
    have ih := ok_spoilt F T D1 D2 bF kF mF n
    refine F.ok (k := 3 + n) scSpo (fun vs H Q E h => ?_) (fun cdv A outer s H vs Q E hr h => ?_)
    · obtain ⟨a, m, v, ov, t, o, rfl, _⟩ := h
      rfl
    obtain ⟨a, m, v, ov, t, o, rfl, hW, hm0, hm, kt, ko, lt, lo, no, dO, dt, hn, q⟩ := h
    have nd := scSpo.nd
    have hm' : m + 3 * ((n : Int) + 1) + 3 ≤ 900000 := by
      have : ((n + 1 : Nat) : Int) = (n : Int) + 1 := by omega
      omega
    have q : ∀ (v' : V) (t' : PyData) (H' : Hp), But a H H' → WellAt H' a (m + 3 * ((n : Int) + 1) + 3) → Dp K (cor a H') v' t' → lf t' = true → nds t' ≤ 2 * nds t + 9 → t'.depth ≤ t.depth + 4 → Q v' H' := fun v' t' H' b w' => q v' t' H' b (w'.up (by omega))
    obtain ⟨tT, pT, qT⟩ := spoilt_tail (P := P) (w := w) (K := K) (mg := mg) (base := base) (cdv := cdv) (outer := outer) (E := E) (k := 1 + n) (Q := Q) (by rw [show 1 + n + 2 = 3 + n by omega]; exact hr) T D2 (by omega) hW kt ko lt lo no dO (fun v' H' b w' g => by
      obtain ⟨t', g1, g2, g3, g4⟩ := g.ex
      exact q v' t' H' b (w'.up (by omega)) g1 g2 g3 g4)
    refine ⟨_, pss_cons (ps_if (PW.pt (pw_and (pt_val (pe_callB call_isi (by rfl) T.isi boot_isinstance (pa_cons (pv 1) (pa_cons (pe_bltn (v := .ty "tuple") (by rfl) T.tuple boot_tuple rfl) pa_nil)))) (pw_and (pt_cmpR op_eq (pe_callB call_len_seq (by rfl) T.len PySem.boot_len (pa_cons (pv 1) pa_nil)) pe_int (nomark _)) (pw_and1 (pt_cmpR op_gt (pe_call D1.G (hr.mono (by omega)) rfl D1.m D1.k D1.b .nil pass0 (pa_cons (pv 0) (pa_cons pe_int pa_nil))) pe_int (nomark _))))))
      (pss_cons (ps_if (pt_cmpR op_eq (pe_call D1.G (hr.mono (by omega)) rfl D1.m D1.k D1.b .nil pass0 (pa_cons (pv 0) (pa_cons pe_int pa_nil))) pe_int (nomark _))
      (pss_one (ps_ret (pe_tup (pa_cons (pe_call ih hr rfl mF kF bF .nil pass0 (pa_cons (pv 0) (pa_cons (pe_ix ix_tup (pv 1) pe_int (fun _ _ => rfl)) (pa_cons (pv 2) pa_nil)))) (pa_cons (pe_ix ix_tup (pv 1) pe_int (fun _ _ => rfl)) pa_nil)))))
      pss_nil)
    (pss_one (ps_ret (pe_tup (pa_cons (pe_ix ix_tup (pv 1) pe_int (fun _ _ => rfl)) (pa_cons (pe_call ih hr rfl mF kF bF .nil pass0 (pa_cons (pv 0) (pa_cons (pe_ix ix_tup (pv 1) pe_int (fun _ _ => rfl)) (pa_cons (pv 2) pa_nil)))) pa_nil)))))) pss_nil) pT, ?_⟩
    have kH := dp_mono (cor_same a H) _ _ kt
    rcases dp_pair kt with ⟨b, x, y, e, g, rfl, rfl, hb, hx, hy⟩ | ⟨hno, c2 | ⟨c2, b, xs, rfl, hb, hl⟩⟩
    case inr.inl =>
      refine ⟨_, rfl, v, V.ty "tuple", _, _, false, rfl, .ty "tuple", dp_ty kH, (by rw [kit_tup, c2]), _, rfl, iteF (iteF ?_)⟩
      exact qT H (But.same (Same.refl H)) (hW.up (by omega))
    case inr.inr =>
      refine ⟨_, rfl, V.ref b, V.ty "tuple", _, _, true, rfl, .ty "tuple", dp_ty kH, (by rw [kit_tup, c2]), _, rfl, iteT ?_⟩
      refine ⟨_, rfl, b, _, rfl, .inr (seqT_mono (cor_same a H) hb), rfl, _, rfl, iteF' (decide_eq_false fun e => hl (by injection e with e; omega)) (iteF ?_)⟩
      exact qT H (But.same (Same.refl H)) (hW.up (by omega))
    have en := nds_pair e g
    have ed := dep_pair e g
    have pe := nds_pos e
    have pg := nds_pos g
    have lt' : ((!false && decide (2 ≤ 3)) && (lf e && (lf g && true))) = true := lt
    obtain ⟨_, lt2⟩ := Bool.and_eq_true_iff.mp lt'
    obtain ⟨le, lt3⟩ := Bool.and_eq_true_iff.mp lt2
    obtain ⟨lg, _⟩ := Bool.and_eq_true_iff.mp lt3
    refine ⟨_, rfl, V.ref b, V.ty "tuple", _, _, true, rfl, .ty "tuple", dp_ty kH, kit_tup _, _, rfl, iteT ?_⟩
    refine ⟨_, rfl, b, _, rfl, .inr (seqT_mono (cor_same a H) hb), rfl, _, rfl, iteT ?_⟩
    refine ⟨_, rfl, a, m, 3, rfl, hW, by omega, by decide, by decide, fun r1 H1 r10 r11 b1 w1 => ?_⟩
    refine ⟨_, _, rfl, rfl, _, rfl, ?_⟩
    by_cases c1 : 0 < r1
    case neg => exact iteF' (decide_eq_false (by omega)) (qT H1 b1 w1)
    refine iteT' (decide_eq_true (by omega)) ?_
    refine ⟨_, rfl, a, _, 2, rfl, w1, by omega, by decide, by decide, fun r2 H2 r20 r21 b2 w2 => ?_⟩
    have b12 := b1.trans b2
    have hb2 : SqT K H2 b [x, y] := seqT_mono (b12.cor.trans (cor_same a H2)) hb
    refine ⟨rfl, _, rfl, ite2 (fun c => ?_) (fun c => ?_)⟩
    · refine ⟨_, rfl, _, rfl, b, _, _, _, rfl, rfl, hb2, (by rfl), _, rfl, ?_⟩
      refine ⟨a, _, x, ov, e, o, rfl, w2, by omega, by omega, dp_mono b12.cor _ _ hx, dp_mono b12.cor _ _ ko, le, lo, no, dO, by omega, by omega, fun v' t' H3 b3 w3 g1 g2 g3 g4 => ?_⟩
      have b13 := b12.trans b3
      have hb3 : SqT K H3 b [x, y] := seqT_mono (b13.cor.trans (cor_same a H3)) hb
      obtain ⟨xa, ya, za, ea, _⟩ := id w3
      refine ⟨_, rfl, b, _, _, _, rfl, rfl, hb3, (by rfl), (by show 2 ≤ sizeLine; decide), fun p hp => ?_⟩
      have s4 := same_new hp (.tup [v', y])
      have npa : p ≠ a := (ne_of_none ea hp).symm
      exact q (.ref p) (.tuple [t', g]) _ (b13.trans (But.same s4)) ((w3.same s4).up (by omega)) (.tup (SqT.of (cor_at npa upd_same)) (.cons (dp_mono (Same.cor s4) _ _ g1) (.cons (dp_mono (b13.cor.trans (Same.cor s4)) _ _ hy) .nil))) (lf_pair g2 lg) (by rw [nds_pair]; omega) (by rw [dep_pair]; omega)
    · refine ⟨_, rfl, b, _, _, _, rfl, rfl, hb2, (by rfl), _, rfl, _, rfl, b, _, _, _, rfl, rfl, hb2, (by rfl), _, rfl, ?_⟩
      refine ⟨a, _, y, ov, g, o, rfl, w2, by omega, by omega, dp_mono b12.cor _ _ hy, dp_mono b12.cor _ _ ko, lg, lo, no, dO, by omega, by omega, fun v' t' H3 b3 w3 g1 g2 g3 g4 => ?_⟩
      have b13 := b12.trans b3
      obtain ⟨xa, ya, za, ea, _⟩ := id w3
      refine ⟨(by show 2 ≤ sizeLine; decide), fun p hp => ?_⟩
      have s4 := same_new hp (.tup [x, v'])
      have npa : p ≠ a := (ne_of_none ea hp).symm
      exact q (.ref p) (.tuple [e, t']) _ (b13.trans (But.same s4)) ((w3.same s4).up (by omega)) (.tup (SqT.of (cor_at npa upd_same)) (.cons (dp_mono (b13.cor.trans (Same.cor s4)) _ _ hx) (.cons (dp_mono (Same.cor s4) _ _ g1) .nil))) (lf_pair le g2) (by rw [nds_pair]; omega) (by rw [dep_pair]; omega)
end
end TA

set_option Elab.async false
set_option maxRecDepth 100000
set_option maxHeartbeats 4000000
namespace TA
open PySem PySem.Spec L2 PyProof.Rows LamX
set_option linter.unusedVariables false
theorem stand_size : ∀ {r : Nat} {d : PyData} {h : Nat} {u : Stands}, stand r d h = some u → nds d + 1 ≤ 2 ^ (r + 1) ∧ d.depth ≤ r
  | 0, d, h, u, e => by
    obtain ⟨i, rfl, _⟩ := stand0 e
    exact ⟨(by show 1 + 1 ≤ 2; decide), Nat.le_refl _⟩
  | r + 1, d, h, u, e => by
    obtain ⟨x, y, u0, rfl, e0, e1⟩ := standS e
    obtain ⟨a1, a2⟩ := stand_size e0
    have p : 2 ^ (r + 1 + 1) = 2 * 2 ^ (r + 1) := by rw [Nat.pow_succ]; omega
    have p1 : 1 ≤ 2 ^ r := Nat.one_le_pow _ _ (by decide)
    have p2 : 2 ^ (r + 1) = 2 * 2 ^ r := by rw [Nat.pow_succ]; omega
    rw [nds_pair, dep_pair]
    rcases e1 with ⟨yn, _⟩ | ⟨_, v, ev, _⟩
    · rw [isN_none yn]
      have q1 : nds PyData.none = 1 := rfl
      have q2 : PyData.none.depth = 0 := rfl
      rw [q1, q2]
      exact ⟨by omega, by omega⟩
    · obtain ⟨b1, b2⟩ := stand_size ev
      exact ⟨by omega, by omega⟩
def M.lfs (m : M) : Prop := ∀ h < 2, lf (m.k h) = true ∧ ∀ d ∈ m.c h, lf d = true
theorem M.lfs_step {m : M} (o : m.lfs) {h : Nat} (hh : h < 2) : (m.step h).lfs := fun i hi => by
  unfold M.step
  by_cases c : m.l h < (m.c h).length
  · rw [if_pos c]
    refine ⟨?_, fun d hd => (o i hi).2 d hd⟩
    show lf (upf m.k h _ i) = true
    by_cases e : i = h
    · subst e
      rw [upf_same]
      refine lf_pair (o i hi).1 ?_
      cases g : (m.c (1 - i))[m.l i]? with
      | none => rw [List.getD_eq_getElem?_getD, g]; rfl
      | some d => rw [List.getD_eq_getElem?_getD, g]; exact (o (1 - i) (by omega)).2 d (List.mem_of_getElem? g)
    · rw [upf_ne e]; exact (o i hi).1
  · rw [if_neg c]
    refine ⟨(o i hi).1, fun d hd => ?_⟩
    have hd' : d ∈ upf m.c h (m.c h ++ [m.k h]) i := hd
    by_cases e : i = h
    · subst e
      rw [upf_same] at hd'
      rcases List.mem_append.mp hd' with q | q
      · exact (o i hi).2 d q
      · have : d = m.k i := by simpa using q
        rw [this]
        exact (o i hi).1
    · rw [upf_ne e] at hd'; exact (o i hi).2 d hd'
theorem M.lfs_run {hs : List Nat} : ∀ {m : M}, m.lfs → (∀ h ∈ hs, h < 2) → (m.run hs).lfs := by
  induction hs with
  | nil => intro m o _; exact o
  | cons h r ih =>
    intro m o q
    exact ih (M.lfs_step o (q h List.mem_cons_self)) (fun x hx => q x (List.mem_cons_of_mem _ hx))
theorem lf_known {x y : Int} (x0 : 0 ≤ x) (x1 : x < 3) (y0 : 0 ≤ y) (y1 : y < 3) {hs : List Nat} (hh : ∀ h ∈ hs, h < 2) (d : Nat) {h : Nat} (h2 : h < 2) : lf (((M0 x y).run hs).res d h) = true := by
  have o : ((M0 x y).run hs).lfs := M.lfs_run (fun h _ => ⟨by
    show lf (if h = 0 then .int x else .int y) = true
    split
    · exact decide_eq_true (by omega)
    · exact decide_eq_true (by omega), fun d hd => by cases hd⟩) hh
  unfold M.res
  split
  · exact (o h h2).1
  · rfl
def spSpotA (K : PySem.W.Frag) : Sp := fun vs H Q E => ∃ r, r ≤ 2 ∧ spSpot K r vs H Q E
def saidD (d dh : PyData) : PyData := if within dh 0 1 = true then (match placeD d (hOf dh) with | some j => .int j | none => .str "known") else .str "hand"
theorem said_dp {K : PySem.W.Frag} {H : Hp} (d dh : PyData) : Dp K H (saidV d dh) (saidD d dh) := by
  unfold saidV saidD
  by_cases c : within dh 0 1 = true
  · rw [if_pos c, if_pos c]
    cases placeD d (hOf dh) with
    | none => exact .str _
    | some j => exact .int _
  · rw [if_neg c, if_neg c]
    exact .str _
theorem said_shaped (d dh : PyData) : SeqAt.shaped (saidD d dh) = true := by
  unfold saidD
  split
  · split
    · rfl
    · decide +kernel
  · decide +kernel
theorem said_odd {d dh : PyData} (h : within dh 0 1 = false) : saidD d dh = .str "hand" ∧ saidV d dh = .str "hand" := by
  unfold saidD saidV
  rw [h]
  exact ⟨if_neg (by decide), if_neg (by decide)⟩
abbrev nRight : List Str := ["_law_well_here", "_law_deep", "_law_inputs", "_law_both", "_law_hand", "_law_thing", "_law_turn", "_law_kept", "_law_due", "_law_odd"]
theorem scRight : FnScope nRight ["_law_well_here"] (defScope sRight) := ⟨rfl, rfl, rfl, by decide +kernel, rfl, by decide +kernel, by decide +kernel⟩
def spRight : Sp := fun vs H Q _ => ∃ a : Addr, vs = [.ref a] ∧ WellAt H a 0 ∧ ∀ H', But a H H' → Q (.bl true) H'
section
variable {P : Program} {w : World} {K : PySem.W.Frag} {mg : Str → Option Value} {base : Heap}
theorem ok_spotA {f : Addr} {fd : FuncData} (F : ∀ r, FnOk P w K mg base CX0 (1 + r) f fd ["_law_thing", "_law_hand"] (spSpot K r)) : FnOk P w K mg base CX0 3 f fd ["_law_thing", "_law_hand"] (spSpotA K) :=
  ⟨fun vs H Q E ⟨r, _, h⟩ => (F r).len vs H Q E h, fun A outer s H args us vs Q E a b c d ⟨r, hr, h⟩ => (F r).run A outer s H args us vs Q E (a.mono (by omega)) b c d h⟩
theorem right_tail {f g2 g9 : Addr} {d2 d9 : FuncData} {cdv : Value} {A : Around} {outer : List Env} {s : Shared} {H : Hp} {Q : VK} {E : XK} (hr : Room 10 (A.deeper (envOfC "_law_right" (defScope sRight) s.heap.objs.size f cdv))) (hgu : A.guards = some []) (T : Txt K mg) (Tr : mg "repr" = none)
    (D2 : Def P w K mg base "_law_one" ["_law_well_here", "_law_some"] 2 spOne2 g2 d2) (D9 : Def P w K mg base "_law_said" ["_law_thing", "_law_hand"] 10 (spSaid K) g9 d9)
    {a : Addr} (q : ∀ H', But a H H' → Q (.bl true) H') :
    ∃ tm, PSs (cxOf CX0 P w K mg base nRight "_law_right" (defScope sRight) f cdv A outer s H E).nox ((defBody sRight).drop 10) tm ∧ ∀ (tI bo : Addr) (d h : Nat) (v : V) (t : PyData) (bv : Nat → V) (e0 : PyData) (H1 : Hp) (g6 : Option V), h < 2 → lf t = true → nds t ≤ 60 → t.depth ≤ 40 → But a H H1 → WellAt H1 a 400 → Dp K (cor a H1) v t → cor a H1 bo = some (.lst [bv 0, bv 1]) → Dp K (cor a H1) (bv 0) e0 →
      tm { nx := fun _ H' => Q .non H', rt := Q } [some (.ref a), some (.int (d : Int)), some (.ref tI), some (.ref bo), some (.int (h : Int)), some v, g6, some (.str t.shown), some (saidV t (.int (h : Int))), none] H1 := by
  have nd := scRight.nd
  have hu64 : (A.deeper (envOfC "_law_right" (defScope sRight) s.heap.objs.size f cdv)).units + 64 < cLine := by have := hr.un; omega
  refine ⟨_, (pss_cons (ps_for PassesOwn.never (by rfl) (pi_range1 (by rfl) T.range (pa_cons pe_int pa_nil)) (pg_name (i := 6) nd rfl (Or.inl rfl))
      (pss_one (ps_if (PW.pt (pw_or (pt_cmpR (op_neD hu64) (pe_call D9.G (hr.mono (by decide)) rfl D9.m D9.k D9.b .nil pass0 (pa_cons (pv 5) (pa_cons (pv 4) pa_nil))) (pv 8) (nomark _)) (pw_or1 (pt_cmpR op_ne (pe_callB (call_repr hgu hu64) (by rfl) Tr bootS_repr (pa_cons (pv 5) pa_nil)) (pv 7) (nomark _)))))
      (pss_one (ps_ret pe_bl))
      pss_nil)))
    (pss_cons (ps_set (i := 9) nd rfl (Or.inl rfl) (pe_call D2.G (hr.mono (by decide)) rfl D2.m D2.k D2.b .nil pass0 (pa_cons (pv 0) (pa_cons (pe_lst (pa_cons (pe_un un_neg pe_int) (pa_cons pe_int (pa_cons pe_bl (pa_cons pe_non (pa_cons pe_str (pa_cons (pe_tup (pa_cons pe_int pa_nil)) (pa_cons (pe_op op_pow pe_int pe_int) pa_nil)))))))) pa_nil))))
    (pss_one (ps_ret (pe_and (pe_cmpR (op_eqD hu64) (pe_call D9.G (hr.mono (by decide)) rfl D9.m D9.k D9.b .nil pass0 (pa_cons (pv 5) (pa_cons (pv 9) pa_nil))) pe_str (nomark _)) (pe_one (pe_cmpR (op_eqD hu64) (pe_call D9.G (hr.mono (by decide)) rfl D9.m D9.k D9.b .nil pass0 (pa_cons (pe_ix ix_list (pv 3) pe_int (fun _ _ => rfl)) (pa_cons (pv 9) pa_nil))) pe_str (nomark _)))))))), fun tI bo d h v t bv e0 H1 g6 hh lt nt pt b1 w1 kt hbo ke => ?_⟩
  have nic := lf_nic t lt
  have shn := lf_shown lt (by omega)
  refine ⟨2, rfl, by decide, by decide, for_range (n := 2) (fun j σ Hc => ∃ g6, σ = [some (.ref a), some (.int (d : Int)), some (.ref tI), some (.ref bo), some (.int (h : Int)), some v, g6, some (.str t.shown), some (saidV t (.int (h : Int))), none] ∧ Same H1 Hc) ⟨g6, rfl, Same.refl H1⟩ ?_ ?_⟩
  · rintro j σ Hc hj ⟨g6, rfl, sc⟩
    have ktc : Dp K Hc v t := dp_mono ((cor_same a H1).trans sc) _ _ kt
    refine ⟨_, rfl, _, rfl, v, _, t, _, rfl, ktc, .int _, fun H2 s2 => ⟨_, rfl, saidD t (.int (h : Int)), saidD t (.int (h : Int)), said_dp _ _, said_dp _ _, said_shaped _ _, said_shaped _ _, _, rfl, ?_⟩⟩
    refine iteF' (by show (!PyData.eqv _ _) = false; rw [eqv_self (said_shaped _ _)]; rfl) ?_
    refine ⟨_, rfl, v, t, rfl, dp_mono s2 _ _ ktc, nic.s, pt, shn, _, rfl, rfl, _, rfl, ?_⟩
    refine iteF' (by show (!decide (V.str t.shown = V.str t.shown)) = false; rw [decide_eq_true rfl]; rfl) ?_
    exact ⟨_, rfl, sc.trans s2⟩
  · rintro σ H2 ⟨g6, rfl, sc⟩
    have w2 := w1.same sc
    obtain ⟨xa, xb, xc, ea2, _⟩ := id w2
    refine ⟨_, rfl, _, rfl, (by show 1 ≤ sizeLine; decide), fun t1 h1 => ?_⟩
    have s3 := same_new h1 (.tup [V.int 0])
    have e3 : upd H2 t1 (.tup [V.int 0]) t1 = some (.tup [V.int 0]) := upd_same
    have n3 : t1 ≠ a := (ne_of_none ea2 h1).symm
    have ea3 := s3 _ _ ea2
    generalize upd H2 t1 (.tup [V.int 0]) = H3 at s3 e3 ea3 ⊢
    refine ⟨_, _, rfl, rfl, ⟨by decide, by decide, by decide⟩, ?_⟩
    refine ⟨(by show 7 ≤ sizeLine; decide), fun l hl => ?_⟩
    have s4 := same_new hl (.lst [V.int (-1), V.int 2, V.bl true, V.non, V.str "0", V.ref t1, V.int (10 ^ (20 : Int).toNat)])
    have nla : a ≠ l := ne_of_none ea3 hl
    have s14 := sc.trans (s3.trans s4)
    refine ⟨a, l, _, _, rfl, w1.same s14, by decide, upd_same, nla, by show 0 < 7; decide, by show 7 < 1000; decide, fun i od H5 hx b5 w5 => ?_⟩
    have c5 : Same (cor a H1) (cor a H5) := (Same.cor s14).trans b5.cor
    have e35 := b5 _ _ n3 (s4 _ _ e3)
    have oddD : ∃ dh, Dp K H5 od dh ∧ within dh 0 1 = false := by
      have hm := List.mem_of_getElem? hx
      simp only [List.mem_cons, List.not_mem_nil, or_false] at hm
      rcases hm with rfl | rfl | rfl | rfl | rfl | rfl | rfl
      · exact ⟨_, .int _, by decide +kernel⟩
      · exact ⟨_, .int _, by decide +kernel⟩
      · exact ⟨_, .bl _, rfl⟩
      · exact ⟨_, .non, rfl⟩
      · exact ⟨_, .str _, rfl⟩
      · exact ⟨.tuple [.int 0], .tup (SqT.of e35) (.cons (.int 0) .nil), rfl⟩
      · exact ⟨_, .int _, by decide +kernel⟩
    obtain ⟨dh, kdh, hdh⟩ := oddD
    have kt5 : Dp K H5 v t := dp_mono (c5.trans (cor_same a H5)) _ _ kt
    refine ⟨_, rfl, _, rfl, v, od, t, dh, rfl, kt5, kdh, fun H6 s6 => ?_⟩
    have sh : SeqAt.shaped (.str "hand") = true := by decide +kernel
    rw [(said_odd (d := t) hdh).2]
    refine ⟨.str "hand", .str "hand", .str _, .str _, sh, sh, _, rfl, iteT' (eqv_self sh) ?_⟩
    have hbo6 : H6 bo = some (.lst [bv 0, bv 1]) := s6 _ _ ((cor_same a H5) _ _ (c5 _ _ hbo))
    refine ⟨_, rfl, bo, _, _, _, rfl, rfl, SqL.of hbo6, (by rfl), _, rfl, bv 0, od, e0, dh, rfl, dp_mono ((c5.trans (cor_same a H5)).trans s6) _ _ ke, dp_mono s6 _ _ kdh, fun H7 s7 => ?_⟩
    rw [(said_odd (d := e0) hdh).2]
    refine ⟨.str "hand", .str "hand", .str _, .str _, sh, sh, ?_⟩
    rw [eqv_self sh]
    exact q H7 (((b1.trans (But.same s14)).trans b5).trans (But.same (s6.trans s7)))
end
end TA

set_option Elab.async false
set_option maxRecDepth 100000
set_option maxHeartbeats 4000000
namespace TA
open PySem PySem.Spec L2 PyProof.Rows LamX
set_option linter.unusedVariables false
theorem kn_cor {a : Addr} {H : Hp} {l : List V} (ea : H a = some (.lst l)) : ∀ {v : V} {d : PyData}, Kn H v d → Kn (cor a H) v d
  | _, _, .int i => .int i
  | _, _, .non => .non
  | _, _, .tup h x y => .tup (cor_at (ne_of h ea (fun q => by cases q)) h) (kn_cor ea x) (kn_cor ea y)
def nb (j : Nat) : Nat := if j = 0 then 7 else if j = 1 then 23 else 60
theorem nb_step {j : Nat} (hj : j < 2) : 2 * nb j + 9 ≤ nb (j + 1) ∧ nb j ≤ 60 := by
  obtain rfl | rfl : j = 0 ∨ j = 1 := by omega
  · decide
  · decide
theorem nb_60 (j : Nat) : nb j ≤ 60 := by
  unfold nb
  split
  · decide
  · split <;> decide
theorem saidV_some {t : PyData} {h r : Nat} {u : Stands} (hh : h < 2) (hr : r ≤ 2) (hu : stand r t h = some u) : saidV t (.int (h : Int)) = .int u.1 := by
  unfold saidV
  rw [show within (.int (h : Int)) 0 1 = true from decide_eq_true (by omega), if_pos rfl, show hOf (.int (h : Int)) = h from rfl]
  have : placeD t h = some u.1 := by
    unfold placeD
    rw [stand_rb hu 5, show min 5 r = r by omega, hu]
    rfl
  rw [this]
theorem saidV_none {t : PyData} {h : Nat} (hh : h < 2) (no : ∀ r u, r ≤ 2 → stand r t h ≠ some u) (deep : (lefts 60 t).1 ≤ 2) : saidV t (.int (h : Int)) = .str "known" := by
  unfold saidV
  rw [show within (.int (h : Int)) 0 1 = true from decide_eq_true (by omega), if_pos rfl, show hOf (.int (h : Int)) = h from rfl]
  have : placeD t h = none := by
    unfold placeD
    cases e : stand (rb 5 t) t h with
    | none => rfl
    | some u =>
      have l5 := rb_le 5 t
      obtain ⟨i, _, el⟩ := stand_lefts e 60 (by omega)
      rw [el] at deep
      exact absurd e (no _ _ deep)
  rw [this]
section
variable {P : Program} {w : World} {K : PySem.W.Frag} {mg : Str → Option Value} {base : Heap}
theorem ok_right {f g1 g2 g3 g4 g5 g6 g7 g8 g9 : Addr} {fd d1 d2 d3 d4 d5 d6 d7 d8 d9 : FuncData} (F : Fun K "_law_right" "_law_right" sRight f fd) (T : Txt K mg) (Tr : mg "repr" = none)
    (D1 : Def P w K mg base "_law_draw" ["_law_well_here", "_law_many"] 1 spDraw2 g1 d1) (D2 : Def P w K mg base "_law_one" ["_law_well_here", "_law_some"] 2 spOne2 g2 d2) (D3 : Def P w K mg base "_law_weaving" ["_law_well_here", "_law_deep", "_law_stops"] 3 spLW g3 d3)
    (D4 : Def P w K mg base "_law_spoilt" ["_law_well_here", "_law_thing", "_law_other"] 10 (spSpoilt K 7) g4 d4) (D5 : KDef P w K mg base g5 d5) (D6 : Def P w K mg base "_law_comes" ["_law_thing", "_law_hand"] 6 (spComes K) g6 d6)
    (D7 : Def P w K mg base "_law_spot" ["_law_thing", "_law_hand"] 3 (spSpotA K) g7 d7) (D8 : Def P w K mg base "_law_depth" ["_law_thing"] 1 (spDepth K) g8 d8) (D9 : Def P w K mg base "_law_said" ["_law_thing", "_law_hand"] 10 (spSaid K) g9 d9) :
    Quiet P w K mg base 11 f fd ["_law_well_here"] spRight := by
  refine quiet_of F scRight (fun vs H Q E h => ?_) (fun cdv A outer s H vs Q E hgu hr h => ?_)
  · obtain ⟨a, rfl, _⟩ := h
    rfl
  obtain ⟨a, rfl, hW, q⟩ := h
  have nd := scRight.nd
  have hu64 : (A.deeper (envOfC "_law_right" (defScope sRight) s.heap.objs.size f cdv)).units + 64 < cLine := by have := hr.un; omega
  obtain ⟨tT, pT, qT⟩ := right_tail (P := P) (w := w) (K := K) (mg := mg) (base := base) (cdv := cdv) (outer := outer) (E := E) hr hgu T Tr D2 D9 q
  refine ⟨_, (pss_cons (ps_set (i := 1) nd rfl (Or.inl rfl) (pe_call D1.G (hr.mono (by decide)) rfl D1.m D1.k D1.b .nil pass0 (pa_cons (pv 0) (pa_cons pe_int pa_nil))))
    (pss_cons (ps_set (i := 2) nd rfl (Or.inl rfl) (pe_tup (pa_cons (pe_call D1.G (hr.mono (by decide)) rfl D1.m D1.k D1.b .nil pass0 (pa_cons (pv 0) (pa_cons pe_int pa_nil))) (pa_cons (pe_call D1.G (hr.mono (by decide)) rfl D1.m D1.k D1.b .nil pass0 (pa_cons (pv 0) (pa_cons pe_int pa_nil))) pa_nil))))
    (pss_cons (ps_set (i := 3) nd rfl (Or.inl rfl) (pe_callN D5.G (hr.mono (by decide)) rfl D5.m D5.k D5.b pass0 (pa_cons (pv 2) (pa_cons (pe_call D3.G (hr.mono (by decide)) rfl D3.m D3.k D3.b .nil pass0 (pa_cons (pv 0) (pa_cons (pv 1) (pa_cons pe_bl pa_nil)))) pa_nil)) (pk_cons (pv 1) pk_nil)))
    (pss_cons (ps_set (i := 4) nd rfl (Or.inl rfl) (pe_call D1.G (hr.mono (by decide)) rfl D1.m D1.k D1.b .nil pass0 (pa_cons (pv 0) (pa_cons pe_int pa_nil))))
    (pss_cons (ps_set (i := 5) nd rfl (Or.inl rfl) (pe_ix ix_list (pv 3) (pv 4) (fun _ _ => rfl)))
    (pss_cons (ps_for PassesOwn.never (by rfl) (pi_range1 (by rfl) T.range (pa_cons (pe_call D1.G (hr.mono (by decide)) rfl D1.m D1.k D1.b .nil pass0 (pa_cons (pv 0) (pa_cons pe_int pa_nil))) pa_nil)) (pg_name (i := 6) nd rfl (Or.inl rfl))
      (pss_one (ps_set (i := 5) nd rfl (Or.inl rfl) (pe_call D4.G (hr.mono (by decide)) rfl D4.m D4.k D4.b .nil pass0 (pa_cons (pv 0) (pa_cons (pv 5) (pa_cons (pe_ix ix_list (pv 3) (pe_call D1.G (hr.mono (by decide)) rfl D1.m D1.k D1.b .nil pass0 (pa_cons (pv 0) (pa_cons pe_int pa_nil))) (fun _ _ => rfl)) pa_nil)))))))
    (pss_cons (ps_if (pt_cmpR op_eq (pe_call D1.G (hr.mono (by decide)) rfl D1.m D1.k D1.b .nil pass0 (pa_cons (pv 0) (pa_cons pe_int pa_nil))) pe_int (nomark _))
      (pss_one (ps_set (i := 4) nd rfl (Or.inl rfl) (pe_op op_sub pe_int (pv 4))))
      pss_nil)
    (pss_cons (ps_set (i := 7) nd rfl (Or.inl rfl) (pe_callB (call_repr hgu hu64) (by rfl) Tr bootS_repr (pa_cons (pv 5) pa_nil)))
    (pss_cons (ps_set (i := 8) nd rfl (Or.inl rfl) pe_str)
    (pss_cons (ps_if (pt_val (pe_call D6.G (hr.mono (by decide)) rfl D6.m D6.k D6.b .nil pass0 (pa_cons (pv 5) (pa_cons (pv 4) pa_nil))))
      (pss_one (ps_set (i := 8) nd rfl (Or.inl rfl) (pe_call D7.G (hr.mono (by decide)) rfl D7.m D7.k D7.b .nil pass0 (pa_cons (pv 5) (pa_cons (pv 4) pa_nil)))))
      (pss_one (ps_if (pt_cmpR op_gt (pe_ix ix_tup (pe_call D8.G (hr.mono (by decide)) rfl D8.m D8.k D8.b .nil pass0 (pa_cons (pv 5) pa_nil)) pe_int (fun _ _ => rfl)) pe_int (nomark _))
      (pss_one (ps_ret pe_bl))
      pss_nil)))
    pT)))))))))), ?_⟩
  refine ⟨_, rfl, a, 0, 3, rfl, hW, by decide, by decide, by decide, fun r H1 r0 r1 b1 w1 => ?_⟩
  obtain ⟨d, rfl, hd⟩ : ∃ d : Nat, r = (d : Int) ∧ d ≤ 2 := ⟨r.toNat, by omega, by omega⟩
  refine ⟨_, rfl, a, _, 3, rfl, w1, by decide, by decide, by decide, fun x H2 x0 x1 b2 w2 => ?_⟩
  refine ⟨_, rfl, a, _, 3, rfl, w2, by decide, by decide, by decide, fun y H3 y0 y1 b3 w3 => ?_⟩
  refine ⟨(by show 2 ≤ sizeLine; decide), fun tI hI => ?_⟩
  have s4 := same_new hI (.tup [V.int x, V.int y])
  have w4 := w3.same s4
  have et4 := upd_same (H := H3) (a := tI) (o := .tup [V.int x, V.int y])
  obtain ⟨xa, ya, za, ea3, _⟩ := id w3
  have nta : tI ≠ a := (ne_of_none ea3 hI).symm
  have b4 : But a H (upd H3 tI (.tup [V.int x, V.int y])) := ((b1.trans b2).trans b3).trans (But.same s4)
  generalize upd H3 tI (.tup [V.int x, V.int y]) = H4 at s4 w4 et4 b4 ⊢
  refine ⟨_, rfl, _, rfl, _, rfl, a, _, d, false, rfl, w4, by decide, by omega, fun w0 hs H5 b5 w5 hw0n hw0 hh hc hfull => ?_⟩
  have full := hfull rfl
  have hlen := len_counts hs hh
  have c0 := full 0 (by decide)
  have c1 := full 1 (by decide)
  have et5 := b5 _ _ nta et4
  have b05 := b4.trans b5
  refine ⟨_, rfl, rfl, rfl, w0, hs, d, x, y, ⟨tI, rfl, et5, SqL.of hw0⟩, hh, hc, by omega, by omega, x0, y0, fun bo bv H6 s6 hbo0 hbo kb => ?_⟩
  have w6 := w5.same s6
  obtain ⟨xb, yb, zb, ea5, _⟩ := id w5
  have nboa : bo ≠ a := (ne_of_none ea5 hbo0).symm
  have b06 := b05.trans (But.same s6)
  -- what both hands know
  have facts : ∀ h < 2, ∃ u, stand d (((M0 x y).run hs).res d h) h = some u := fun h h2 => by
    obtain ⟨a1, u, eu, _⟩ := behind x0 y0 hh h2 (full h h2)
    rw [← a1] at eu
    exact ⟨u, eu⟩
  have lfs : ∀ h < 2, lf (((M0 x y).run hs).res d h) = true := fun h h2 => lf_known x0 (by omega) y0 (by omega) hh d h2
  have sz : ∀ h < 2, nds (((M0 x y).run hs).res d h) ≤ 7 ∧ (((M0 x y).run hs).res d h).depth ≤ 3 := fun h h2 => by
    obtain ⟨u, eu⟩ := facts h h2
    obtain ⟨n1, n2⟩ := stand_size eu
    have : 2 ^ (d + 1) ≤ 2 ^ 3 := Nat.pow_le_pow_right (by decide) (by omega)
    exact ⟨by omega, by omega⟩
  have kd6 : ∀ h < 2, Dp K (cor a H6) (bv h) (((M0 x y).run hs).res d h) := fun h h2 => by
    have := (kb h h2)
    have ea6 := s6 _ _ ea5
    exact (kn_cor ea6 this).dp
  clear facts
  generalize ((M0 x y).run hs).res d = e at lfs sz kd6 kb
  have cb6 : cor a H6 bo = some (.lst [bv 0, bv 1]) := cor_at nboa hbo
  refine ⟨_, rfl, a, _, 2, rfl, w6, by omega, by decide, by decide, fun h' H7 h0 h1 b7 w7 => ?_⟩
  obtain ⟨h, rfl, hh2⟩ : ∃ h : Nat, h' = (h : Int) ∧ h < 2 := ⟨h'.toNat, by omega, by omega⟩
  have hbo7 := b7 _ _ nboa hbo
  refine ⟨_, rfl, _, rfl, bo, _, _, _, rfl, rfl, SqL.of hbo7, at_two bv hh2, ?_⟩
  refine ⟨_, rfl, a, _, 3, rfl, w7, by omega, by decide, by decide, fun rr H8 rr0 rr1 b8 w8 => ?_⟩
  obtain ⟨n, rfl, hn⟩ : ∃ n : Nat, rr = (n : Int) ∧ n ≤ 2 := ⟨rr.toNat, by omega, by omega⟩
  have c68 : Same (cor a H6) (cor a H8) := b7.cor.trans b8.cor
  have b08 := (b06.trans b7).trans b8
  have w8' : WellAt H8 a 200 := w8.up (by omega)
  refine ⟨n, rfl, by omega, by omega, for_range (n := n) (fun j σ Hc => ∃ v t g6, σ = [some (.ref a), some (.int (d : Int)), some (.ref tI), some (.ref bo), some (.int (h : Int)), some v, g6, none, none, none] ∧ But a H Hc ∧ Same (cor a H6) (cor a Hc) ∧ WellAt Hc a (200 + 30 * (j : Int)) ∧ Dp K (cor a Hc) v t ∧ lf t = true ∧ nds t ≤ nb j ∧ t.depth ≤ 3 + 4 * j) ⟨bv h, e h, none, rfl, b08, c68, w8'.up (by omega), dp_mono c68 _ _ (kd6 h hh2), lfs h hh2, (sz h hh2).1, (sz h hh2).2⟩ ?_ ?_⟩
  · rintro j σ Hc hj ⟨v, t, g6, rfl, bc, cc, wc, kt, lt, nt, dt⟩
    obtain ⟨nb1, nb2⟩ := nb_step (show j < 2 by omega)
    refine ⟨_, rfl, _, rfl, _, rfl, _, rfl, a, _, 2, rfl, wc, by omega, by decide, by decide, fun z H9 z0 z1 b9 w9 => ?_⟩
    obtain ⟨k, rfl, hk2⟩ : ∃ k : Nat, z = (k : Int) ∧ k < 2 := ⟨z.toNat, by omega, by omega⟩
    have c9 := cc.trans b9.cor
    have hbo9 : H9 bo = some (.lst [bv 0, bv 1]) := cor_same a H9 _ _ (c9 _ _ cb6)
    refine ⟨bo, _, _, _, rfl, rfl, SqL.of hbo9, at_two bv hk2, ?_⟩
    refine ⟨a, _, v, bv k, t, e k, rfl, w9, by omega, by omega, dp_mono b9.cor _ _ kt, dp_mono c9 _ _ (kd6 k hk2), lt, lfs k hk2, (sz k hk2).1, (sz k hk2).2, by omega, by omega, fun v' t' H10 b10 w10 g1 g2 g3 g4 => ?_⟩
    exact ⟨v', t', _, rfl, (bc.trans b9).trans b10, c9.trans b10.cor, w10.up (by omega), g1, g2, by omega, by omega⟩
  rintro σ H9 ⟨v, t, g6, rfl, b09, c69, w9, kt, lt, nt, dt⟩
  have nt60 : nds t ≤ 60 := Nat.le_trans nt (nb_60 n)
  refine ⟨_, rfl, a, _, 6, rfl, w9, by omega, by decide, by decide, fun r6 H10 _ _ b10 w10 => ⟨rfl, _, rfl, join2 (fun σ Hc => ∃ h2 : Nat, h2 < 2 ∧ σ = [some (.ref a), some (.int (d : Int)), some (.ref tI), some (.ref bo), some (.int (h2 : Int)), some v, g6, none, none, none] ∧ But a H Hc ∧ Same (cor a H6) (cor a Hc) ∧ WellAt Hc a 399 ∧ Dp K (cor a Hc) v t) ?_ (fun σ Hc hI => ?_) (fun _ k => ?_)⟩⟩
  · exact ⟨h, hh2, rfl, b09.trans b10, c69.trans b10.cor, w10.up (by omega), dp_mono b10.cor _ _ kt⟩
  case refine_3 =>
    refine ⟨_, rfl, _, _, rfl, rfl, k _ _ ⟨1 - h, by omega, ?_, b09.trans b10, c69.trans b10.cor, w10.up (by omega), dp_mono b10.cor _ _ kt⟩⟩
    show [_, _, _, _, some (V.int (1 - (h : Int))), _, _, _, _, _] = _
    rw [show (1 : Int) - (h : Int) = ((1 - h : Nat) : Int) by omega]
  obtain ⟨h2, hh3, rfl, bc, cc, wc, kc⟩ := hI
  have nic := lf_nic t lt
  have shn := lf_shown lt (by omega)
  have ktc : Dp K Hc v t := dp_mono (cor_same a Hc) _ _ kc
  refine ⟨_, rfl, v, t, rfl, ktc, nic.s, by omega, shn, ?_⟩
  refine ⟨_, rfl, _, rfl, v, t, h2, rfl, ktc, lt, nt60, hh3, fun c H11 s11 cT cF => ⟨_, rfl, ?_⟩⟩
  have b11 := bc.trans (But.same s11)
  have c11 := cc.trans (Same.cor s11)
  have w11 := wc.same s11
  have k11 := dp_mono (Same.cor (a := a) s11) _ _ kc
  cases c with
  | true =>
    obtain ⟨r, u, hr2, hu⟩ := cT rfl
    refine iteT ⟨_, rfl, _, rfl, r, hr2, v, t, h2, u, rfl, dp_mono s11 _ _ ktc, hh3, hu, ?_⟩
    have z := qT tI bo d h2 v t bv (e 0) H11 g6 hh3 lt nt60 (by omega) b11 (w11.up (by omega)) k11 (c11 _ _ cb6) (dp_mono c11 _ _ (kd6 0 (by decide)))
    rw [saidV_some hh3 hr2 hu] at z
    exact z
  | false =>
    refine iteF ⟨_, rfl, v, t, rfl, dp_mono s11 _ _ ktc, lt, nt60, fun o ov H12 s12 ho hov => ?_⟩
    refine ⟨o, _, _, _, rfl, rfl, SqT.of ho, (by rfl), _, _, rfl, rfl, _, rfl, ?_⟩
    have b12 := b11.trans (But.same s12)
    by_cases cd : 2 < (lefts 60 t).1
    · exact iteT' (decide_eq_true (by omega)) (q H12 b12)
    · refine iteF' (decide_eq_false (by omega)) ?_
      have c12 := c11.trans (Same.cor s12)
      have z := qT tI bo d h2 v t bv (e 0) H12 g6 hh3 lt nt60 (by omega) b12 ((w11.same s12).up (by omega)) (dp_mono (Same.cor s12) _ _ k11) (c12 _ _ cb6) (dp_mono c12 _ _ (kd6 0 (by decide)))
      rw [saidV_none hh3 (cF rfl (by omega)) (by omega)] at z
      exact z
end
end TA

set_option Elab.async false
set_option maxRecDepth 100000
set_option maxHeartbeats 4000000
namespace TA
open PySem PySem.Spec L2 PyProof.Rows LamX
set_option linter.unusedVariables false
def spLaw (K : PySem.W.Frag) : Sp := fun vs H Q _ => ∃ (a : Addr) (ns : List Int), vs = [.ref a] ∧ SqL K H a (ns.map V.int) ∧ ns.length ≤ 63 ∧ ∀ H', Q (.bl true) H'
theorem scLaw : FnScope ["_law_script", "_law_cell"] ["_law_script"] (defScope sLaw) := ⟨rfl, rfl, rfl, by decide +kernel, rfl, by decide +kernel, by decide +kernel⟩
theorem cut_ints {ns : List Int} {lo hi : Option Int} {x : V} (h : x ∈ cutV (ns.map V.int) lo hi) : ∃ c : Int, x = .int c := by
  unfold cutV at h
  have h1 := List.mem_of_mem_drop (List.mem_of_mem_take h)
  obtain ⟨c, _, e⟩ := List.mem_map.mp h1
  exact ⟨c, e.symm⟩
section
variable {P : Program} {w : World} {K : PySem.W.Frag} {mg : Str → Option Value} {base : Heap}
theorem ok_law {f g1 g2 g3 : Addr} {fd d1 d2 d3 : FuncData} (F : Fun K "law" "law" sLaw f fd) (D1 : Def P w K mg base "_law_cell_at" ["_law_script", "_law_k"] 1 (spCell K) g1 d1) (D2 : Def P w K mg base "_law_well" ["_law_cell"] 1 spWell g2 d2) (D3 : Quiet P w K mg base 11 g3 d3 ["_law_well_here"] spRight)
    (b3 : Binds K d3 ["_law_well_here"] []) (k3 : PySem.W.keepIn K (.ref g3) = true) (m3 : mg "_law_right" = some (.ref g3)) : Quiet P w K mg base 12 f fd ["_law_script"] (spLaw K) := by
  refine quiet_of F scLaw (fun vs H Q E h => ?_) (fun cdv A outer s H vs Q E hgu hr h => ?_)
  · obtain ⟨a, ns, rfl, _⟩ := h
    rfl
  obtain ⟨a, ns, rfl, hS, h63, q⟩ := h
  have nd := scLaw.nd
  refine ⟨_, pss_cons (ps_for PassesOwn.never rfl (pi_list (pe_op op_cat (pe_lst (pa_cons (pe_call D1.G (hr.mono (by decide)) rfl D1.m D1.k D1.b .nil pass0 (pa_cons (pv 0) (pa_cons pe_int pa_nil))) pa_nil)) (pe_slice sl_list (pv 0) (po_some pe_int) (po_some pe_int)))) (pg_name (i := 1) nd rfl (Or.inl rfl))
      (pss_one (ps_if (pt_not (pt_val (pe_quiet D3 hgu hr rfl m3 k3 b3 (pa_cons (pe_call D2.G (hr.mono (by decide)) rfl D2.m D2.k D2.b .nil pass0 (pa_cons (pv 1) pa_nil)) pa_nil)))) (pss_one (ps_ret pe_bl)) pss_nil)))
    (pss_one (ps_ret pe_bl)), ?_⟩
  refine ⟨_, rfl, a, ns, 0, rfl, hS, by omega, Int.le_refl 0, fun c => ⟨(by show 1 ≤ sizeLine; decide), fun l hl0 => ?_⟩⟩
  have s1 := same_new hl0 (.lst [V.int c])
  refine ⟨_, rfl, _, rfl, _, rfl, a, _, rfl, s1.seq hS, fun p hp => ?_⟩
  have s2 := same_new hp (.lst (cutV (ns.map V.int) (some 1) (some 4)))
  have hcl := cutV_length (ns.map V.int) (some 1) (some 4)
  rw [List.length_map] at hcl
  refine ⟨l, p, _, _, rfl, rfl, s2 _ _ upd_same, upd_same, small13 (by show 1 + _ ≤ _; omega), fun ct hct => ?_⟩
  refine ⟨ct, rfl, ⟨_, SqL.of upd_same⟩, for_list (K := K) (a := ct) (xs := [V.int c] ++ cutV (ns.map V.int) (some 1) (some 4)) (fun i σ Hc => ∃ g, σ = [some (.ref a), g] ∧ Hc ct = some (.lst ([V.int c] ++ cutV (ns.map V.int) (some 1) (some 4)))) ⟨none, rfl, upd_same⟩ ?_ ?_ ?_⟩
  · rintro i σ Hc _ ⟨g, _, h⟩
    exact SqL.of h
  · rintro i x σ Hc hx ⟨g, rfl, h⟩
    obtain ⟨z, rfl⟩ : ∃ z : Int, x = .int z := by
      rcases List.mem_append.mp (List.mem_of_getElem? hx) with m | m
      · exact ⟨c, by simpa using m⟩
      · exact cut_ints m
    refine ⟨_, rfl, z, rfl, fun w x y hw hx hy hy2 => ?_⟩
    have nw : ct ≠ w := ne_of_none h hw
    refine ⟨w, rfl, ⟨x, y, 0, upd_same, hx, hy, hy2, Int.le_refl 0, Int.le_refl 0⟩, fun H' b => ?_⟩
    refine ⟨true, rfl, iteF ?_⟩
    exact ⟨_, rfl, b _ _ nw (by rw [upd_ne nw]; exact h)⟩
  · rintro σ Hc ⟨g, rfl, h⟩
    exact q _
end
end TA

set_option Elab.async false
set_option maxRecDepth 100000
set_option maxHeartbeats 4000000
namespace TA
open PySem PySem.Spec L2 PyProof.Rows LamX
set_option linter.unusedVariables false
/-! the law called, nothing under way, no table of code -/
section
variable {P : Program} {w : World} {K : PySem.W.Frag} {mg mb : Str → Option Value}
def atCall (K : PySem.W.Frag) (a : Addr) (ob : Obj) (xs : List V) : Hp := fun b => if b = a then (if (K.lookup a).isSome then none else some (.frz ob (.lst xs))) else none
theorem atCall_a {a : Addr} {ob : Obj} {xs : List V} : atCall K a ob xs a = if (K.lookup a).isSome then none else some (.frz ob (.lst xs)) := if_pos rfl
theorem atCall_no {a b : Addr} {ob : Obj} {xs : List V} (m : b ≠ a) : atCall K a ob xs b = none := if_neg m
theorem quiet_end0 {k : Nat} {fa a : Addr} {fd : FuncData} {x : Str} {sp : Sp} {s : Shared} {vs : List Value} {ns : List Int}
    (KX : K.In s.heap) (gl : s.heap.Ns mainGlobals mg) (bn : s.heap.Ns builtinsNs mb) (bb : ∀ x : Str, x ≠ "__name__" → mb x = bootBuiltins x) (nl : s.heap.NoLimit) (gs : s.gens = #[])
    (sc : s.heap.get? a = some { cls := .type "list", data := .seq vs.toArray }) (hi : IntsAre vs ns) (hz : ns.length ≤ sizeLine) (hr : Room k callerA)
    (F : ∀ base : Heap, K.In base → base.Ns mainGlobals mg → Quiet P w K mg base k fa fd [x] sp) (bd : ∀ (s : Shared) (u : Value), BindsTo s fd ⟨[u], []⟩ [(x, u)])
    (hsp : ∀ H : Hp, SqL K H a (ns.map V.int) → sp [.ref a] H (fun v _ => v = .bl true) fun _ _ _ => False) :
    codeAny (model P w) callerA (.call (.ref fa) ⟨[.ref a], []⟩) (fun r s' => r = .ok (.ret (.bool true)) ∧ OldK s.heap s'.heap ∧ s'.os = s.os ∧ AllBare s'.gens) s := by
  have rv := vals_ints hi
  have ln := hi.length
  obtain ⟨H, Ha, Ho⟩ : ∃ H : Hp, (H a = if (K.lookup a).isSome then none else some (.frz { cls := .type "list", data := .seq vs.toArray } (.lst (ns.map V.int)))) ∧ ∀ b, b ≠ a → H b = none := ⟨_, atCall_a, fun b m => atCall_no m⟩
  have seen : SqL K H a (ns.map V.int) := by
    cases e : K.lookup a with
    | none =>
      rw [e] at Ha
      exact .inl (.inr ⟨_, Ha⟩)
    | some o =>
      have q := KX a o e
      rw [sc] at q
      cases q
      exact .inr ⟨_, vs.toArray, _, e, rfl, rfl, rfl, by rw [List.size_toArray, ln]; exact hz, by simpa using rv⟩
  have ok : HOk P w H s.heap := fun b u e => by
    by_cases h2 : b = a
    · subst h2
      rw [Ha] at e
      cases q : (K.lookup b).isSome with
      | true => simp [q] at e
      | false =>
        simp [q] at e
        subst e
        exact ⟨sc, by rw [List.length_map]; exact hz, vs, _, rv, sc⟩
    · rw [Ho b h2] at e
      cases e
  have keepO : ∀ {b : Addr} {o : Obj}, s.heap.get? b = some o → (∀ xs n, o.data ≠ .seq xs n) → (hidT s.heap H).get? b = some o := fun {b o} e n1 =>
    hidT_get e (Ho b fun z => by rw [z, sc] at e; cases e; exact n1 _ _ rfl)
  have keepN : ∀ {b : Addr} {m : Str → Option Value}, s.heap.Ns b m → (hidT s.heap H).Ns b m := fun {b m} h => by
    obtain ⟨o, es, ep, e, d, r⟩ := h
    exact ⟨o, es, ep, keepO e (fun xs n z => by rw [d] at z; cases z), d, r⟩
  have keepK : K.In (hidT s.heap H) := fun b o e => hidT_get (KX b o e) (by
    by_cases h2 : b = a
    · subst h2
      rw [Ha, e]
      rfl
    · exact Ho b h2)
  have e0 : Env0 P w K mg (hidT s.heap H) callerA [] s H := by
    refine ⟨rfl, ⟨keepK, keepN gl, ⟨mb, keepN bn, bb⟩, ?_⟩, fun b o e => of_hidT e, Nat.le_of_eq (hidT_size _ _), trivial, fun b hb => absurd (show b ∈ ([] : List Addr) from hb) (by simp), ok, .of_eq gs⟩
    obtain ⟨mc, h1, h2⟩ := nl
    exact ⟨mc, keepN h1, h2⟩
  refine codeAny_mono ((F _ keepK (keepN gl)).run callerA [] s H ⟨[.ref a], []⟩ [.ref a] [.ref a] (fun v _ => v = .bl true) (fun _ _ _ => False) rfl hr e0 (bd s (.ref a)) (.cons rfl .nil) (hsp H seen)) fun r s' h => ?_
  match r, h with
  | .error _, h => exact False.elim h
  | .ok (.ret u), h =>
    obtain ⟨v, H', os, bare, un, ok', rr, q⟩ := h
    have ev : v = .bl true := q
    subst ev
    obtain rfl : u = Value.bool true := rr
    refine ⟨rfl, OldK.of_keep fun b o e => ?_, os, bare⟩
    cases g : H b with
    | none => exact un.keep b o e g (fun z => absurd (show b ∈ ([] : List Addr) from z) (by simp)) (by simp)
    | some u =>
      by_cases h2 : b = a
      · subst h2
        have fz : ∃ ob xs, u = .frz ob (.lst xs) := by
          rw [Ha] at g
          cases q2 : (K.lookup b).isSome with
          | true => simp [q2] at g
          | false =>
            simp [q2] at g
            exact ⟨_, _, g.symm⟩
        obtain ⟨ob, xs, rfl⟩ := fz
        obtain ⟨g1, _⟩ := ok b _ g
        obtain ⟨g2, _⟩ := ok' b _ (un.frzs b ob _ g)
        rw [e] at g1
        cases g1
        exact g2
      · rw [Ho b h2] at g
        cases g
end
end TA

set_option Elab.async false
set_option maxRecDepth 100000
set_option maxHeartbeats 4000000
set_option linter.unusedVariables false
namespace TA
open PySem PySem.Spec L2 PyProof.Rows
/-! what the top leaves, as tests that run -/
def excB (K : PySem.W.Frag) (D : Addr) : Bool :=
  decide (PySem.W.findIn K (.ref D) "__getattribute__" = some (some (.builtin "BaseException.__getattribute__"))) && (decide (PySem.W.findIn K (.ref D) "__getattr__" = some none) && (decide (PySem.W.subIn K (.ref D) (.type "BaseException") = some true) &&
  (PySem.W.hasDictIn K D && (decide (PySem.W.findIn K (.ref D) "__class__" = some (some (.builtin "object.__class__"))) && (decide (PySem.W.specialIn K (.builtin "object.__class__") "__get__" = some (some (.builtin "getset_descriptor.__get__"))) &&
  (decide (PySem.W.takesIn K (.builtin "object.__class__") = some true) && decide (PySem.W.mroIn K D (.type "object") = some true)))))))
theorem excB_ok {K : PySem.W.Frag} {D : Addr} (h : excB K D = true) : ExcC K D := by
  obtain ⟨a, h⟩ := Bool.and_eq_true_iff.mp h
  obtain ⟨b, h⟩ := Bool.and_eq_true_iff.mp h
  obtain ⟨c, h⟩ := Bool.and_eq_true_iff.mp h
  obtain ⟨d, h⟩ := Bool.and_eq_true_iff.mp h
  obtain ⟨e, h⟩ := Bool.and_eq_true_iff.mp h
  obtain ⟨f, h⟩ := Bool.and_eq_true_iff.mp h
  obtain ⟨g, h⟩ := Bool.and_eq_true_iff.mp h
  exact ⟨of_decide_eq_true a, of_decide_eq_true b, of_decide_eq_true c, d, of_decide_eq_true e, of_decide_eq_true f, of_decide_eq_true g, of_decide_eq_true h⟩
def raiseB (K : PySem.W.Frag) (C : Addr) : Bool := decide (PySem.W.subIn K (.ref C) (.type "BaseException") = some true) && decide (PySem.W.typeIn K (.ref C) = some (.type "type"))
theorem raiseB_ok {K : PySem.W.Frag} {mg : Str → Option Value} {n : Str} {C : Addr} (h : raiseB K C = true) (m : mg n = some (.ref C)) (x : PySem.W.excIn K C [.type "ValueError", .type "Exception", .type "BaseException", .type "object"] "ValueError.__new__" = true) (k : PySem.W.keepIn K (.ref C) = true) : RaiseC K mg n C := by
  obtain ⟨a, b⟩ := Bool.and_eq_true_iff.mp h
  exact ⟨m, x, k, of_decide_eq_true a, of_decide_eq_true b⟩
def saidB (K : PySem.W.Frag) (cH cN cI cA D : Addr) (n : Nat) : Bool := excB K D && (decide (PySem.W.exmOne K (.ref D) (.ref cA) = some true) && (decide (PySem.W.kitOne K (.ref D) (.ref cH) = some (decide (n = 0))) && (decide (PySem.W.kitOne K (.ref D) (.ref cN) = some (decide (n = 1))) &&
  (decide (PySem.W.kitOne K (.ref D) (.ref cI) = some (decide (n = 2))) && decide (PySem.W.kitOne K (.ref D) (.type "ValueError") = some true)))))
theorem saidB_ok {K : PySem.W.Frag} {cH cN cI cA D : Addr} {n : Nat} (h : saidB K cH cN cI cA D n = true) : SaidC K cH cN cI cA D n := by
  obtain ⟨a, h⟩ := Bool.and_eq_true_iff.mp h
  obtain ⟨b, h⟩ := Bool.and_eq_true_iff.mp h
  obtain ⟨c, h⟩ := Bool.and_eq_true_iff.mp h
  obtain ⟨d, h⟩ := Bool.and_eq_true_iff.mp h
  obtain ⟨e, g⟩ := Bool.and_eq_true_iff.mp h
  exact ⟨excB_ok a, of_decide_eq_true b, of_decide_eq_true c, of_decide_eq_true d, of_decide_eq_true e, of_decide_eq_true g⟩
theorem all_mk {l : PySem.W.OpenLaw} {w : World} {K : PySem.W.Frag} {h : Heap} {mg : Str → Option Value} {fa f1 f2 f3 f4 f5 f6 f7 f8 f9 f10 f11 f12 f13 f14 f15 f16 f17 f18 f19 f20 f21 f22 f23 f24 f25 f26 f27 hA0 cN cH cI cA : Addr} (X : K.In h) (G : h.Ns mainGlobals mg) (hfa : mg "law" = some (.ref fa))
    {od1 an1 od2 an2 od3 an3 od4 an4 od5 an5 od6 an6 od7 an7 od8 an8 od9 an9 od10 an10 od11 an11 od12 an12 od13 an13 od14 an14 od15 an15 od16 an16 od17 an17 od18 an18 od19 an19 od20 an20 od21 an21 od22 an22 od23 an23 od24 an24 od25 an25 od26 an26 od27 an27 odH0 : Option Addr} {sl1 sl2 sl3 sl4 sl5 sl6 sl7 sl8 sl9 sl10 sl11 sl12 sl13 sl14 sl15 sl16 sl17 sl18 sl19 sl20 sl21 sl22 sl23 sl24 sl25 sl26 sl27 slH0 : Array (Option Value)} {oc1 kV1 dc1 pm1 cd1 ct1 oc2 kV2 dc2 pm2 cd2 ct2 oc3 kV3 dc3 pm3 cd3 ct3 oc4 kV4 dc4 pm4 cd4 ct4 oc5 kV5 dc5 pm5 cd5 ct5 oc6 kV6 dc6 pm6 cd6 ct6 oc7 kV7 dc7 pm7 cd7 ct7 oc8 kV8 dc8 pm8 cd8 ct8 oc9 kV9 dc9 pm9 cd9 ct9 oc10 kV10 dc10 pm10 cd10 ct10 oc11 kV11 dc11 pm11 cd11 ct11 oc12 kV12 dc12 pm12 cd12 ct12 oc13 kV13 dc13 pm13 cd13 ct13 oc14 kV14 dc14 pm14 cd14 ct14 oc15 kV15 dc15 pm15 cd15 ct15 oc16 kV16 dc16 pm16 cd16 ct16 oc17 kV17 dc17 pm17 cd17 ct17 oc18 kV18 dc18 pm18 cd18 ct18 oc19 kV19 dc19 pm19 cd19 ct19 oc20 kV20 dc20 pm20 cd20 ct20 oc21 kV21 dc21 pm21 cd21 ct21 oc22 kV22 dc22 pm22 cd22 ct22 oc23 kV23 dc23 pm23 cd23 ct23 oc24 kV24 dc24 pm24 cd24 ct24 oc25 kV25 dc25 pm25 cd25 ct25 oc26 kV26 dc26 pm26 cd26 ct26 oc27 kV27 dc27 pm27 cd27 ct27 : Value} {tI0 tI1 tI2 tT0_0 tT0_1 : Tok} {nH0 : Nat}
    (a1 : PySem.W.nsIn K mainGlobals "is_whole" = some (some (.ref f1))) (l1 : K.lookup f1 = some ⟨oc1, od1, .func (PySem.W.fnOf "is_whole" "is_whole" (defArgs sWhole) (defBody sWhole) (defScope sWhole) .none kV1 dc1 pm1 an1 cd1 ct1), sl1⟩) (c1 : PySem.W.codeIn K cd1 "is_whole" = true) (k1 : PySem.W.keepIn K (.ref f1) = true)
    (a2 : PySem.W.nsIn K mainGlobals "is_whole_within" = some (some (.ref f2))) (l2 : K.lookup f2 = some ⟨oc2, od2, .func (PySem.W.fnOf "is_whole_within" "is_whole_within" (defArgs sWithin) (defBody sWithin) (defScope sWithin) .none kV2 dc2 pm2 an2 cd2 ct2), sl2⟩) (c2 : PySem.W.codeIn K cd2 "is_whole_within" = true) (k2 : PySem.W.keepIn K (.ref f2) = true)
    (a3 : PySem.W.nsIn K mainGlobals "is_hand" = some (some (.ref f3))) (l3 : K.lookup f3 = some ⟨oc3, od3, .func (PySem.W.fnOf "is_hand" "is_hand" (defArgs sHand) (defBody sHand) (defScope sHand) .none kV3 dc3 pm3 an3 cd3 ct3), sl3⟩) (c3 : PySem.W.codeIn K cd3 "is_hand" = true) (k3 : PySem.W.keepIn K (.ref f3) = true)
    (a4 : PySem.W.nsIn K mainGlobals "is_inputs" = some (some (.ref f4))) (l4 : K.lookup f4 = some ⟨oc4, od4, .func (PySem.W.fnOf "is_inputs" "is_inputs" (defArgs sInputs) (defBody sInputs) (defScope sInputs) .none kV4 dc4 pm4 an4 cd4 ct4), sl4⟩) (c4 : PySem.W.codeIn K cd4 "is_inputs" = true) (k4 : PySem.W.keepIn K (.ref f4) = true)
    (a5 : PySem.W.nsIn K mainGlobals "is_weaving" = some (some (.ref f5))) (l5 : K.lookup f5 = some ⟨oc5, od5, .func (PySem.W.fnOf "is_weaving" "is_weaving" (defArgs sWeaving) (defBody sWeaving) (defScope sWeaving) .none kV5 dc5 pm5 an5 cd5 ct5), sl5⟩) (c5 : PySem.W.codeIn K cd5 "is_weaving" = true) (k5 : PySem.W.keepIn K (.ref f5) = true)
    (a6 : PySem.W.nsIn K mainGlobals "put_in" = some (some (.ref f6))) (l6 : K.lookup f6 = some ⟨oc6, od6, .func (PySem.W.fnOf "put_in" "put_in" (defArgs sPut) (defBody sPut) (defScope sPut) .none kV6 dc6 pm6 an6 cd6 ct6), sl6⟩) (c6 : PySem.W.codeIn K cd6 "put_in" = true) (k6 : PySem.W.keepIn K (.ref f6) = true)
    (a7 : PySem.W.nsIn K mainGlobals "known" = some (some (.ref f7))) (l7 : K.lookup f7 = some ⟨oc7, od7, .func (PySem.W.fnOf "known" "known" (defArgs sKnown) (defBody sKnown) (defScope sKnown) .none kV7 dc7 pm7 an7 cd7 ct7), sl7⟩) (c7 : PySem.W.codeIn K cd7 "known" = true) (k7 : PySem.W.keepIn K (.ref f7) = true)
    (a8 : PySem.W.nsIn K mainGlobals "weavings" = some (some (.ref f8))) (l8 : K.lookup f8 = some ⟨oc8, od8, .func (PySem.W.fnOf "weavings" "weavings" (defArgs sWeav) (defBody sWeav) (defScope sWeav) .none kV8 dc8 pm8 an8 cd8 ct8), sl8⟩) (c8 : PySem.W.codeIn K cd8 "weavings" = true) (k8 : PySem.W.keepIn K (.ref f8) = true)
    (a9 : PySem.W.nsIn K mainGlobals "rounds_behind" = some (some (.ref f9))) (l9 : K.lookup f9 = some ⟨oc9, od9, .func (PySem.W.fnOf "rounds_behind" "rounds_behind" (defArgs s_rounds_behind) (defBody s_rounds_behind) (defScope s_rounds_behind) .none kV9 dc9 pm9 an9 cd9 ct9), sl9⟩) (c9 : PySem.W.codeIn K cd9 "rounds_behind" = true) (k9 : PySem.W.keepIn K (.ref f9) = true)
    (a10 : PySem.W.nsIn K mainGlobals "agrees" = some (some (.ref f10))) (l10 : K.lookup f10 = some ⟨oc10, od10, .func (PySem.W.fnOf "agrees" "agrees" (defArgs s_agrees) (defBody s_agrees) (defScope s_agrees) .none kV10 dc10 pm10 an10 cd10 ct10), sl10⟩) (c10 : PySem.W.codeIn K cd10 "agrees" = true) (k10 : PySem.W.keepIn K (.ref f10) = true)
    (a11 : PySem.W.nsIn K mainGlobals "met" = some (some (.ref f11))) (l11 : K.lookup f11 = some ⟨oc11, od11, .func (PySem.W.fnOf "met" "met" (defArgs s_met) (defBody s_met) (defScope s_met) .none kV11 dc11 pm11 an11 cd11 ct11), sl11⟩) (c11 : PySem.W.codeIn K cd11 "met" = true) (k11 : PySem.W.keepIn K (.ref f11) = true)
    (a12 : PySem.W.nsIn K mainGlobals "standing" = some (some (.ref f12))) (l12 : K.lookup f12 = some ⟨oc12, od12, .func (PySem.W.fnOf "standing" "standing" (defArgs s_standing) (defBody s_standing) (defScope s_standing) .none kV12 dc12 pm12 an12 cd12 ct12), sl12⟩) (c12 : PySem.W.codeIn K cd12 "standing" = true) (k12 : PySem.W.keepIn K (.ref f12) = true)
    (a13 : PySem.W.nsIn K mainGlobals "place" = some (some (.ref f13))) (l13 : K.lookup f13 = some ⟨oc13, od13, .func (PySem.W.fnOf "place" "place" (defArgs sPlace) (defBody sPlace) (defScope sPlace) .none kV13 dc13 pm13 an13 cd13 ct13), sl13⟩) (c13 : PySem.W.codeIn K cd13 "place" = true) (k13 : PySem.W.keepIn K (.ref f13) = true)
    (a14 : PySem.W.nsIn K mainGlobals "_law_cell_at" = some (some (.ref f14))) (l14 : K.lookup f14 = some ⟨oc14, od14, .func (PySem.W.fnOf "_law_cell_at" "_law_cell_at" (defArgs sCell) (defBody sCell) (defScope sCell) .none kV14 dc14 pm14 an14 cd14 ct14), sl14⟩) (c14 : PySem.W.codeIn K cd14 "_law_cell_at" = true) (k14 : PySem.W.keepIn K (.ref f14) = true)
    (a15 : PySem.W.nsIn K mainGlobals "_law_well" = some (some (.ref f15))) (l15 : K.lookup f15 = some ⟨oc15, od15, .func (PySem.W.fnOf "_law_well" "_law_well" (defArgs sWell) (defBody sWell) (defScope sWell) .none kV15 dc15 pm15 an15 cd15 ct15), sl15⟩) (c15 : PySem.W.codeIn K cd15 "_law_well" = true) (k15 : PySem.W.keepIn K (.ref f15) = true)
    (a16 : PySem.W.nsIn K mainGlobals "_law_draw" = some (some (.ref f16))) (l16 : K.lookup f16 = some ⟨oc16, od16, .func (PySem.W.fnOf "_law_draw" "_law_draw" (defArgs sDraw) (defBody sDraw) (defScope sDraw) .none kV16 dc16 pm16 an16 cd16 ct16), sl16⟩) (c16 : PySem.W.codeIn K cd16 "_law_draw" = true) (k16 : PySem.W.keepIn K (.ref f16) = true)
    (a17 : PySem.W.nsIn K mainGlobals "_law_one" = some (some (.ref f17))) (l17 : K.lookup f17 = some ⟨oc17, od17, .func (PySem.W.fnOf "_law_one" "_law_one" (defArgs sOne) (defBody sOne) (defScope sOne) .none kV17 dc17 pm17 an17 cd17 ct17), sl17⟩) (c17 : PySem.W.codeIn K cd17 "_law_one" = true) (k17 : PySem.W.keepIn K (.ref f17) = true)
    (a18 : PySem.W.nsIn K mainGlobals "_law_weaving" = some (some (.ref f18))) (l18 : K.lookup f18 = some ⟨oc18, od18, .func (PySem.W.fnOf "_law_weaving" "_law_weaving" (defArgs sLawWeav) (defBody sLawWeav) (defScope sLawWeav) .none kV18 dc18 pm18 an18 cd18 ct18), sl18⟩) (c18 : PySem.W.codeIn K cd18 "_law_weaving" = true) (k18 : PySem.W.keepIn K (.ref f18) = true)
    (a19 : PySem.W.nsIn K mainGlobals "_law_numbers" = some (some (.ref f19))) (l19 : K.lookup f19 = some ⟨oc19, od19, .func (PySem.W.fnOf "_law_numbers" "_law_numbers" (defArgs s__law_numbers) (defBody s__law_numbers) (defScope s__law_numbers) .none kV19 dc19 pm19 an19 cd19 ct19), sl19⟩) (c19 : PySem.W.codeIn K cd19 "_law_numbers" = true) (k19 : PySem.W.keepIn K (.ref f19) = true)
    (a20 : PySem.W.nsIn K mainGlobals "_law_plain_things" = some (some (.ref f20))) (l20 : K.lookup f20 = some ⟨oc20, od20, .func (PySem.W.fnOf "_law_plain_things" "_law_plain_things" (defArgs s__law_plain_things) (defBody s__law_plain_things) (defScope s__law_plain_things) .none kV20 dc20 pm20 an20 cd20 ct20), sl20⟩) (c20 : PySem.W.codeIn K cd20 "_law_plain_things" = true) (k20 : PySem.W.keepIn K (.ref f20) = true)
    (a21 : PySem.W.nsIn K mainGlobals "_law_depth" = some (some (.ref f21))) (l21 : K.lookup f21 = some ⟨oc21, od21, .func (PySem.W.fnOf "_law_depth" "_law_depth" (defArgs s__law_depth) (defBody s__law_depth) (defScope s__law_depth) .none kV21 dc21 pm21 an21 cd21 ct21), sl21⟩) (c21 : PySem.W.codeIn K cd21 "_law_depth" = true) (k21 : PySem.W.keepIn K (.ref f21) = true)
    (a22 : PySem.W.nsIn K mainGlobals "_law_comes" = some (some (.ref f22))) (l22 : K.lookup f22 = some ⟨oc22, od22, .func (PySem.W.fnOf "_law_comes" "_law_comes" (defArgs s__law_comes) (defBody s__law_comes) (defScope s__law_comes) .none kV22 dc22 pm22 an22 cd22 ct22), sl22⟩) (c22 : PySem.W.codeIn K cd22 "_law_comes" = true) (k22 : PySem.W.keepIn K (.ref f22) = true)
    (a23 : PySem.W.nsIn K mainGlobals "_law_spoilt" = some (some (.ref f23))) (l23 : K.lookup f23 = some ⟨oc23, od23, .func (PySem.W.fnOf "_law_spoilt" "_law_spoilt" (defArgs sSpoilt) (defBody sSpoilt) (defScope sSpoilt) .none kV23 dc23 pm23 an23 cd23 ct23), sl23⟩) (c23 : PySem.W.codeIn K cd23 "_law_spoilt" = true) (k23 : PySem.W.keepIn K (.ref f23) = true)
    (a24 : PySem.W.nsIn K mainGlobals "_law_said" = some (some (.ref f24))) (l24 : K.lookup f24 = some ⟨oc24, od24, .func (PySem.W.fnOf "_law_said" "_law_said" (defArgs sSaid) (defBody sSaid) (defScope sSaid) .none kV24 dc24 pm24 an24 cd24 ct24), sl24⟩) (c24 : PySem.W.codeIn K cd24 "_law_said" = true) (k24 : PySem.W.keepIn K (.ref f24) = true)
    (a25 : PySem.W.nsIn K mainGlobals "_law_spot" = some (some (.ref f25))) (l25 : K.lookup f25 = some ⟨oc25, od25, .func (PySem.W.fnOf "_law_spot" "_law_spot" (defArgs s__law_spot) (defBody s__law_spot) (defScope s__law_spot) .none kV25 dc25 pm25 an25 cd25 ct25), sl25⟩) (c25 : PySem.W.codeIn K cd25 "_law_spot" = true) (k25 : PySem.W.keepIn K (.ref f25) = true)
    (a26 : PySem.W.nsIn K mainGlobals "_law_right" = some (some (.ref f26))) (l26 : K.lookup f26 = some ⟨oc26, od26, .func (PySem.W.fnOf "_law_right" "_law_right" (defArgs sRight) (defBody sRight) (defScope sRight) .none kV26 dc26 pm26 an26 cd26 ct26), sl26⟩) (c26 : PySem.W.codeIn K cd26 "_law_right" = true) (k26 : PySem.W.keepIn K (.ref f26) = true)
    (a27 : PySem.W.nsIn K mainGlobals "law" = some (some (.ref f27))) (l27 : K.lookup f27 = some ⟨oc27, od27, .func (PySem.W.fnOf "law" "law" (defArgs sLaw) (defBody sLaw) (defScope sLaw) .none kV27 dc27 pm27 an27 cd27 ct27), sl27⟩) (c27 : PySem.W.codeIn K cd27 "law" = true) (k27 : PySem.W.keepIn K (.ref f27) = true)
    (z0 : PySem.W.nsIn K mainGlobals "isinstance" = some none)
    (z1 : PySem.W.nsIn K mainGlobals "int" = some none)
    (z2 : PySem.W.nsIn K mainGlobals "bool" = some none)
    (z3 : PySem.W.nsIn K mainGlobals "len" = some none)
    (z4 : PySem.W.nsIn K mainGlobals "range" = some none)
    (z5 : PySem.W.nsIn K mainGlobals "list" = some none)
    (z6 : PySem.W.nsIn K mainGlobals "tuple" = some none)
    (z7 : PySem.W.nsIn K mainGlobals "all" = some none)
    (z8 : PySem.W.nsIn K mainGlobals "sum" = some none)
    (z9 : PySem.W.nsIn K mainGlobals "min" = some none)
    (z10 : PySem.W.nsIn K mainGlobals "abs" = some none)
    (z11 : PySem.W.nsIn K mainGlobals "ValueError" = some none)
    (z12 : PySem.W.nsIn K mainGlobals "repr" = some none)
    (i0 : PySem.W.nsIn K mainGlobals "STEPS" = some (some (.int 2 tI0)))
    (i1 : PySem.W.nsIn K mainGlobals "MOST_ROUNDS" = some (some (.int 5 tI1)))
    (i2 : PySem.W.nsIn K mainGlobals "MOST_WOVEN" = some (some (.int 3 tI2)))
    (t0 : PySem.W.nsIn K mainGlobals "HANDS" = some (some (.ref hA0))) (u0 : K.lookup hA0 = some ⟨.type "tuple", odH0, .seq (Array.mk [.int 0 tT0_0, .int 1 tT0_1]) nH0, slH0⟩)
    (n0 : PySem.W.nsIn K mainGlobals "NoKnown" = some (some (.ref cN)))
    (n1 : PySem.W.nsIn K mainGlobals "NoHand" = some (some (.ref cH)))
    (n2 : PySem.W.nsIn K mainGlobals "NoInputs" = some (some (.ref cI)))
    (n3 : PySem.W.nsIn K mainGlobals "AloneError" = some (some (.ref cA)))
    (q_cN : PySem.W.excIn K cN [.type "ValueError", .type "Exception", .type "BaseException", .type "object"] "ValueError.__new__" = true) (kk_cN : PySem.W.keepIn K (.ref cN) = true) (r_cN : raiseB K cN = true)
    (q_cH : PySem.W.excIn K cH [.type "ValueError", .type "Exception", .type "BaseException", .type "object"] "ValueError.__new__" = true) (kk_cH : PySem.W.keepIn K (.ref cH) = true) (r_cH : raiseB K cH = true)
    (xs0 : saidB K cH cN cI cA cH 0 = true)
    (xs1 : saidB K cH cN cI cA cN 1 = true)
    : ∃ fd : FuncData, (∀ (s : Shared) (v : Value), BindsTo s fd ⟨[v], []⟩ [("_law_script", v)]) ∧ ∀ base : Heap, K.In base → base.Ns mainGlobals mg → Quiet l.prog w K mg base 12 fa fd ["_law_script"] (spLaw K) := by
  have e := hfa.symm.trans (PySem.W.mg_of X G a27)
  cases e
  have F1 := fun_mk (st := sWhole) l1 c1 k1
  have b1 := F1.binds (ps := ["thing"]) fun _ _ _ _ _ _ us hl => match us, hl with | [_], _ => rfl
  have F2 := fun_mk (st := sWithin) l2 c2 k2
  have b2 := F2.binds (ps := ["thing", "least", "most"]) fun _ _ _ _ _ _ us hl => match us, hl with | [_, _, _], _ => rfl
  have F3 := fun_mk (st := sHand) l3 c3 k3
  have b3 := F3.binds (ps := ["thing"]) fun _ _ _ _ _ _ us hl => match us, hl with | [_], _ => rfl
  have F4 := fun_mk (st := sInputs) l4 c4 k4
  have b4 := F4.binds (ps := ["thing"]) fun _ _ _ _ _ _ us hl => match us, hl with | [_], _ => rfl
  have F5 := fun_mk (st := sWeaving) l5 c5 k5
  have b5 := F5.binds (ps := ["thing", "rounds"]) fun _ _ _ _ _ _ us hl => match us, hl with | [_, _], _ => rfl
  have F6 := fun_mk (st := sPut) l6 c6 k6
  have b6 := F6.binds (ps := ["cells", "at"]) fun _ _ _ _ _ _ us hl => match us, hl with | [_, _], _ => rfl
  have F7 := fun_mk (st := sKnown) l7 c7 k7
  have F8 := fun_mk (st := sWeav) l8 c8 k8
  have b8 := F8.binds (ps := ["rounds"]) fun _ _ _ _ _ _ us hl => match us, hl with | [_], _ => rfl
  have F9 := fun_mk (st := s_rounds_behind) l9 c9 k9
  have b9 := F9.binds (ps := ["thing"]) fun _ _ _ _ _ _ us hl => match us, hl with | [_], _ => rfl
  have F10 := fun_mk (st := s_agrees) l10 c10 k10
  have b10 := F10.binds (ps := ["one", "other"]) fun _ _ _ _ _ _ us hl => match us, hl with | [_, _], _ => rfl
  have F11 := fun_mk (st := s_met) l11 c11 k11
  have b11 := F11.binds (ps := ["own", "other"]) fun _ _ _ _ _ _ us hl => match us, hl with | [_, _], _ => rfl
  have F12 := fun_mk (st := s_standing) l12 c12 k12
  have b12 := F12.binds (ps := ["thing", "hand", "rounds"]) fun _ _ _ _ _ _ us hl => match us, hl with | [_, _, _], _ => rfl
  have F13 := fun_mk (st := sPlace) l13 c13 k13
  have b13 := F13.binds (ps := ["known", "hand"]) fun _ _ _ _ _ _ us hl => match us, hl with | [_, _], _ => rfl
  have F14 := fun_mk (st := sCell) l14 c14 k14
  have b14 := F14.binds (ps := ["_law_script", "_law_k"]) fun _ _ _ _ _ _ us hl => match us, hl with | [_, _], _ => rfl
  have F15 := fun_mk (st := sWell) l15 c15 k15
  have b15 := F15.binds (ps := ["_law_cell"]) fun _ _ _ _ _ _ us hl => match us, hl with | [_], _ => rfl
  have F16 := fun_mk (st := sDraw) l16 c16 k16
  have b16 := F16.binds (ps := ["_law_well_here", "_law_many"]) fun _ _ _ _ _ _ us hl => match us, hl with | [_, _], _ => rfl
  have F17 := fun_mk (st := sOne) l17 c17 k17
  have b17 := F17.binds (ps := ["_law_well_here", "_law_some"]) fun _ _ _ _ _ _ us hl => match us, hl with | [_, _], _ => rfl
  have F18 := fun_mk (st := sLawWeav) l18 c18 k18
  have b18 := F18.binds (ps := ["_law_well_here", "_law_deep", "_law_stops"]) fun _ _ _ _ _ _ us hl => match us, hl with | [_, _, _], _ => rfl
  have F19 := fun_mk (st := s__law_numbers) l19 c19 k19
  have b19 := F19.binds (ps := ["_law_thing"]) fun _ _ _ _ _ _ us hl => match us, hl with | [_], _ => rfl
  have F20 := fun_mk (st := s__law_plain_things) l20 c20 k20
  have b20 := F20.binds (ps := ["_law_thing"]) fun _ _ _ _ _ _ us hl => match us, hl with | [_], _ => rfl
  have F21 := fun_mk (st := s__law_depth) l21 c21 k21
  have b21 := F21.binds (ps := ["_law_thing"]) fun _ _ _ _ _ _ us hl => match us, hl with | [_], _ => rfl
  have F22 := fun_mk (st := s__law_comes) l22 c22 k22
  have b22 := F22.binds (ps := ["_law_thing", "_law_hand"]) fun _ _ _ _ _ _ us hl => match us, hl with | [_, _], _ => rfl
  have F23 := fun_mk (st := sSpoilt) l23 c23 k23
  have b23 := F23.binds (ps := ["_law_well_here", "_law_thing", "_law_other"]) fun _ _ _ _ _ _ us hl => match us, hl with | [_, _, _], _ => rfl
  have F24 := fun_mk (st := sSaid) l24 c24 k24
  have b24 := F24.binds (ps := ["_law_thing", "_law_hand"]) fun _ _ _ _ _ _ us hl => match us, hl with | [_, _], _ => rfl
  have F25 := fun_mk (st := s__law_spot) l25 c25 k25
  have b25 := F25.binds (ps := ["_law_thing", "_law_hand"]) fun _ _ _ _ _ _ us hl => match us, hl with | [_, _], _ => rfl
  have F26 := fun_mk (st := sRight) l26 c26 k26
  have b26 := F26.binds (ps := ["_law_well_here"]) fun _ _ _ _ _ _ us hl => match us, hl with | [_], _ => rfl
  have F27 := fun_mk (st := sLaw) l27 c27 k27
  have m := fun {n : Str} {v : Value} (e : PySem.W.nsIn K mainGlobals n = some (some v)) => PySem.W.mg_of X G e
  have mz := fun {n : Str} (e : PySem.W.nsIn K mainGlobals n = some none) => PySem.W.mg_none_of X G e
  have T : Txt K mg := ⟨mz z0, mz z1, mz z2, mz z3, mz z4, mz z5, mz z6, mz z7, mz z8, mz z9⟩
  have U : Txt2 K mg := ⟨⟨_, m i0⟩, ⟨_, m i1⟩, ⟨_, m t0, fun H => .inr ⟨_, _, _, u0, rfl, rfl, (by show 2 ≤ sizeLine; decide), .cons ⟨_, rfl⟩ (.cons ⟨_, rfl⟩ .nil)⟩⟩⟩
  have UW : Txt2W K mg := ⟨⟨_, m i0⟩, ⟨_, m i2⟩, ⟨_, m t0, fun H => .inr ⟨_, _, _, u0, rfl, rfl, (by show 2 ≤ sizeLine; decide), .cons ⟨_, rfl⟩ (.cons ⟨_, rfl⟩ .nil)⟩⟩⟩
  have B7 := kn_binds F7
  have R1 := raiseB_ok (mg := mg) r_cN (m n0) q_cN kk_cN
  have R2 := raiseB_ok (mg := mg) r_cH (m n1) q_cH kk_cH
  have TS : SaidT mg cH cN cI cA := ⟨mz z0, mz z11, m n3, m n1, m n0, m n2⟩
  refine ⟨PySem.W.fnOf "law" "law" (defArgs sLaw) (defBody sLaw) (defScope sLaw) .none kV27 dc27 pm27 an27 cd27 ct27, fun s v => .of_eq rfl, fun base _ _ => ?_⟩
  have e1 : Def l.prog w K mg base "is_whole" ["thing"] 1 spWhole f1 _ := ⟨ok_whole F1 T, b1, k1, m a1⟩
  have e1g : Def l.prog w K mg base "is_whole" ["thing"] 1 (spWholeG K) f1 _ := ⟨ok_wholeG F1 T, b1, k1, m a1⟩
  have e2 : Def l.prog w K mg base "is_whole_within" ["thing", "least", "most"] 2 spWithin f2 _ := ⟨ok_within F2 e1.G e1.b e1.k e1.m, b2, k2, m a2⟩
  have e2g : Def l.prog w K mg base "is_whole_within" ["thing", "least", "most"] 2 (spWithinG K) f2 _ := ⟨ok_withinG F2 e1g, b2, k2, m a2⟩
  have e3 : Def l.prog w K mg base "is_hand" ["thing"] 3 spHand f3 _ := ⟨ok_hand F3 e2, b3, k3, m a3⟩
  have e3g : Def l.prog w K mg base "is_hand" ["thing"] 3 (spHandG K) f3 _ := ⟨ok_handG F3 e2g, b3, k3, m a3⟩
  have e4 : Def l.prog w K mg base "is_inputs" ["thing"] 2 spInputs f4 _ := ⟨ok_inputs F4 T e1, b4, k4, m a4⟩
  have e5 : Def l.prog w K mg base "is_weaving" ["thing", "rounds"] 4 (spWeaving K) f5 _ := ⟨ok_weaving F5 T U e3, b5, k5, m a5⟩
  have e6 : Def l.prog w K mg base "put_in" ["cells", "at"] 1 (spPut K) f6 _ := ⟨ok_put F6 T, b6, k6, m a6⟩
  have e7 : KDef l.prog w K mg base f7 _ := ⟨ok_known F7 T U e2 e4 e5 e6, B7, k7, m a7⟩
  have eW : Def l.prog w K mg base "weavings" ["rounds"] 3 (spWeav K) f8 _ := ⟨ok_weav F8 T UW e2.G e2.b e2.k e2.m, b8, k8, m a8⟩
  have e8 : Def l.prog w K mg base "rounds_behind" ["thing"] 1 (spRbG K) f9 _ := ⟨ok_rbG F9 T U, b9, k9, m a9⟩
  have e9 : Def l.prog w K mg base "agrees" ["one", "other"] 1 spAgr f10 _ := ⟨ok_agr F10, b10, k10, m a10⟩
  have e10 : Def l.prog w K mg base "met" ["own", "other"] 2 spMet f11 _ := ⟨ok_met F11 (mz z10) e9, b11, k11, m a11⟩
  have e11 := fun r => ok_standG (P := l.prog) (w := w) (base := base) F12 T e1g e10 b12 k12 (m a12) r
  have e12 : PDef l.prog w K mg base cH cN f13 _ := ⟨ok_placeG F13 R2 R1 e3g e8 b12 k12 (m a12) (fun r _ => e11 r), b13, k13, m a13⟩
  have eC : Def l.prog w K mg base "_law_cell_at" ["_law_script", "_law_k"] 1 (spCell K) f14 _ := ⟨ok_cell F14 T, b14, k14, m a14⟩
  have eE : Def l.prog w K mg base "_law_well" ["_law_cell"] 1 spWell f15 _ := ⟨ok_well F15 T, b15, k15, m a15⟩
  have gD := ok_draw (P := l.prog) (w := w) (mg := mg) (base := base) F16
  have eD : Def l.prog w K mg base "_law_draw" ["_law_well_here", "_law_many"] 1 spDraw2 f16 _ := ⟨weak gD draw_weak, b16, k16, m a16⟩
  have eO : Def l.prog w K mg base "_law_one" ["_law_well_here", "_law_some"] 2 spOne2 f17 _ := ⟨weak (ok_one F17 T gD b16 k16 (m a16)) one_weak, b17, k17, m a17⟩
  have eL : Def l.prog w K mg base "_law_weaving" ["_law_well_here", "_law_deep", "_law_stops"] 3 spLW f18 _ := ⟨ok_lw F18 T eD eO, b18, k18, m a18⟩
  have eN : Def l.prog w K mg base "_law_numbers" ["_law_thing"] 1 (spNumbers K) f19 _ := ⟨ok_numbers F19 T, b19, k19, m a19⟩
  have eP : Def l.prog w K mg base "_law_plain_things" ["_law_thing"] 1 (spPlainG K) f20 _ := ⟨ok_plainG F20 T, b20, k20, m a20⟩
  have eQ : Def l.prog w K mg base "_law_depth" ["_law_thing"] 1 (spDepth K) f21 _ := ⟨ok_depth F21 T, b21, k21, m a21⟩
  have eM : Def l.prog w K mg base "_law_comes" ["_law_thing", "_law_hand"] 6 (spComes K) f22 _ := ⟨ok_comes F22 T eQ eP eW eN e7, b22, k22, m a22⟩
  have eS : Def l.prog w K mg base "_law_spoilt" ["_law_well_here", "_law_thing", "_law_other"] 10 (spSpoilt K 7) f23 _ := ⟨ok_spoilt (base := base) F23 T eD eO b23 k23 (m a23) 7, b23, k23, m a23⟩
  have eA : Def l.prog w K mg base "_law_said" ["_law_thing", "_law_hand"] 10 (spSaid K) f24 _ := ⟨ok_said F24 TS (saidB_ok xs0) (saidB_ok xs1) e12, b24, k24, m a24⟩
  have eT : Def l.prog w K mg base "_law_spot" ["_law_thing", "_law_hand"] 3 (spSpotA K) f25 _ := ⟨ok_spotA (fun r => ok_spot F25 T b25 k25 (m a25) r), b25, k25, m a25⟩
  have G := ok_right (P := l.prog) (w := w) (base := base) F26 T (mz z12) eD eO eL eS e7 eM eT eQ eA
  exact ok_law F27 eC eE G b26 k26 (m a26)
theorem walk {l : PySem.W.OpenLaw} {q : Program} {loose : List Str} {XP : (Str → Option Value) → Heap → Prop} {YP : World → Heap → Prop} {d : DefRec} {K : Params → PySem.W.Frag} (hn : l.most = some 63) (hdf : d.params.defaults = [])
    (hY : ∀ (w : World) (h : Heap), YP w h → (K w.params).In h)
    (F : ∀ (w : World) (mg : Str → Option Value) (fa : Addr) (h : Heap), (K w.params).In h → h.Ns mainGlobals mg → mg d.name = some (.ref fa) →
      ∃ fd : FuncData, (∀ (s : Shared) (u : Value), BindsTo s fd ⟨[u], []⟩ [("_law_script", u)]) ∧ ∀ base : Heap, (K w.params).In base → base.Ns mainGlobals mg → Quiet l.prog w (K w.params) mg base 12 fa fd ["_law_script"] (spLaw (K w.params))) :
    PySem.W.WalkO q loose XP YP l.row.toRowW d [] (fun f vs => PySem.call f vs) := by
  refine Att.attach_callB hn hdf fun w s₀ s mg mb fa o pm cd doc a vs ns G Y ho hd hcd hmg hobj hints hlen hbits hg => ?_
  have KX := hY w _ Y
  obtain ⟨fd, hb, hF⟩ := F w mg fa _ KX G.T.g hmg
  exact quiet_end0 KX G.T.g G.T.b G.T.builtins G.T.nolimit hg hobj hints (Nat.le_trans hlen (by decide)) ⟨rfl, by decide, by decide⟩ hF hb fun H hS => ⟨a, ns, rfl, hS, hlen, fun _ => rfl⟩
end TA
open PySem PySem.W PyProof.Rows
set_option maxRecDepth 100000 in
set_option maxHeartbeats 0 in
theorem PySem.Challenge.cw_twoalone_k16_what_is_not_known_holds : PySem.Challenge.rw_twoalone_k16_what_is_not_known.Holds := by
  w_on; o_law; k_head; (case hw => w_witness2)
  k_fill
  refine TA.walk (l := PySem.Challenge.rw_twoalone_k16_what_is_not_known) rfl rfl (fun w h Y => PySem.W.kIn_of Y) ?F
  case F =>
    intro w mg fa h KX G hmg
    refine' TA.all_mk KX G hmg ?a1 ?l1 ?c1 ?k1 ?a2 ?l2 ?c2 ?k2 ?a3 ?l3 ?c3 ?k3 ?a4 ?l4 ?c4 ?k4 ?a5 ?l5 ?c5 ?k5 ?a6 ?l6 ?c6 ?k6 ?a7 ?l7 ?c7 ?k7 ?a8 ?l8 ?c8 ?k8 ?a9 ?l9 ?c9 ?k9 ?a10 ?l10 ?c10 ?k10 ?a11 ?l11 ?c11 ?k11 ?a12 ?l12 ?c12 ?k12 ?a13 ?l13 ?c13 ?k13 ?a14 ?l14 ?c14 ?k14 ?a15 ?l15 ?c15 ?k15 ?a16 ?l16 ?c16 ?k16 ?a17 ?l17 ?c17 ?k17 ?a18 ?l18 ?c18 ?k18 ?a19 ?l19 ?c19 ?k19 ?a20 ?l20 ?c20 ?k20 ?a21 ?l21 ?c21 ?k21 ?a22 ?l22 ?c22 ?k22 ?a23 ?l23 ?c23 ?k23 ?a24 ?l24 ?c24 ?k24 ?a25 ?l25 ?c25 ?k25 ?a26 ?l26 ?c26 ?k26 ?a27 ?l27 ?c27 ?k27 ?z0 ?z1 ?z2 ?z3 ?z4 ?z5 ?z6 ?z7 ?z8 ?z9 ?z10 ?z11 ?z12 ?i0 ?i1 ?i2 ?t0 ?u0 ?n0 ?n1 ?n2 ?n3 ?q_cN ?kk_cN ?r_cN ?q_cH ?kk_cH ?r_cH ?xs0 ?xs1
    (case a1 => k_is); (case l1 => k_is); (case c1 => k_is); (case k1 => k_is); (case a2 => k_is); (case l2 => k_is); (case c2 => k_is); (case k2 => k_is); (case a3 => k_is); (case l3 => k_is); (case c3 => k_is); (case k3 => k_is); (case a4 => k_is); (case l4 => k_is); (case c4 => k_is); (case k4 => k_is); (case a5 => k_is); (case l5 => k_is); (case c5 => k_is); (case k5 => k_is); (case a6 => k_is); (case l6 => k_is); (case c6 => k_is); (case k6 => k_is); (case a7 => k_is); (case l7 => k_is); (case c7 => k_is); (case k7 => k_is); (case a8 => k_is); (case l8 => k_is); (case c8 => k_is); (case k8 => k_is); (case a9 => k_is); (case l9 => k_is); (case c9 => k_is); (case k9 => k_is); (case a10 => k_is); (case l10 => k_is); (case c10 => k_is); (case k10 => k_is); (case a11 => k_is); (case l11 => k_is); (case c11 => k_is); (case k11 => k_is); (case a12 => k_is); (case l12 => k_is); (case c12 => k_is); (case k12 => k_is); (case a13 => k_is); (case l13 => k_is); (case c13 => k_is); (case k13 => k_is); (case a14 => k_is); (case l14 => k_is); (case c14 => k_is); (case k14 => k_is); (case a15 => k_is); (case l15 => k_is); (case c15 => k_is); (case k15 => k_is); (case a16 => k_is); (case l16 => k_is); (case c16 => k_is); (case k16 => k_is); (case a17 => k_is); (case l17 => k_is); (case c17 => k_is); (case k17 => k_is); (case a18 => k_is); (case l18 => k_is); (case c18 => k_is); (case k18 => k_is); (case a19 => k_is); (case l19 => k_is); (case c19 => k_is); (case k19 => k_is); (case a20 => k_is); (case l20 => k_is); (case c20 => k_is); (case k20 => k_is); (case a21 => k_is); (case l21 => k_is); (case c21 => k_is); (case k21 => k_is); (case a22 => k_is); (case l22 => k_is); (case c22 => k_is); (case k22 => k_is); (case a23 => k_is); (case l23 => k_is); (case c23 => k_is); (case k23 => k_is); (case a24 => k_is); (case l24 => k_is); (case c24 => k_is); (case k24 => k_is); (case a25 => k_is); (case l25 => k_is); (case c25 => k_is); (case k25 => k_is); (case a26 => k_is); (case l26 => k_is); (case c26 => k_is); (case k26 => k_is); (case a27 => k_is); (case l27 => k_is); (case c27 => k_is); (case k27 => k_is); (case z0 => k_is); (case z1 => k_is); (case z2 => k_is); (case z3 => k_is); (case z4 => k_is); (case z5 => k_is); (case z6 => k_is); (case z7 => k_is); (case z8 => k_is); (case z9 => k_is); (case z10 => k_is); (case z11 => k_is); (case z12 => k_is); (case i0 => k_is); (case i1 => k_is); (case i2 => k_is); (case t0 => k_is); (case u0 => k_is); (case n0 => k_is); (case n1 => k_is); (case n2 => k_is); (case n3 => k_is); (case q_cN => k_exc); (case kk_cN => k_is); (case r_cN => kernel_rfl); (case q_cH => k_exc); (case kk_cH => k_is); (case r_cH => kernel_rfl); (case xs0 => kernel_rfl); (case xs1 => kernel_rfl)
