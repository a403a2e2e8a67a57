import PyProof.Rows.All
import Wide.All
import OpenK.AllK
import Wide.FinOn
import HandS.ForMost
import HandS.IsInst
import HandS.SetFor
import HandS.Wide
import HandS.Defaults
import HandS.DictTup
import HandS.ExcIs
import HandS.ForExc
import HandS.More
import HandS.SetKeys
import HandS.Conv
import HandS.EndBits
import KE.KNestM
import PySem.Challenge.RW_twoalone_k15_whole_the_line_of_places
set_option Elab.async false
set_option maxRecDepth 100000
set_option maxHeartbeats 4000000
namespace TA
open PySem L2 PyProof.Rows
set_option linter.unusedVariables false
def top (i : Nat) : Stmt := PySem.Challenge.pw_twoalone_k15_whole_the_line_of_places.main.body.getD i (.Pass ⟨0, 0, 0, 0⟩)
abbrev sWhole : Stmt := top 2
abbrev sWithin : Stmt := top 3
abbrev sHand : Stmt := top 4
abbrev s_AloneError : Stmt := top 6
abbrev s_NoHand : Stmt := top 7
abbrev s_NoRounds : Stmt := top 8
abbrev s_NoInputs : Stmt := top 9
abbrev s_NoWeaving : Stmt := top 10
abbrev s_NoKnown : Stmt := top 11
abbrev sInputs : Stmt := top 16
abbrev sWeaving : Stmt := top 17
abbrev sPut : Stmt := top 18
abbrev sKnown : Stmt := top 19
abbrev sWeav : Stmt := top 20
abbrev s_rounds_behind : Stmt := top 22
abbrev s_agrees : Stmt := top 23
abbrev s_met : Stmt := top 24
abbrev s_standing : Stmt := top 25
abbrev sPlace : Stmt := top 26
abbrev sCell : Stmt := top 28
abbrev sWell : Stmt := top 29
abbrev sDraw : Stmt := top 30
abbrev sOne : Stmt := top 31
abbrev sPower : Stmt := top 32
abbrev s__law_plain : Stmt := top 33
abbrev s__law_met : Stmt := top 34
abbrev s__law_lines : Stmt := top 35
abbrev sLaw : Stmt := top 36

structure Txt (K : PySem.W.Frag) (mg : Str → Option Value) : Prop where
  isi : mg "isinstance" = none
  int : mg "int" = none
  bool : mg "bool" = none
  len : mg "len" = none
  range : mg "range" = none
  list : mg "list" = none
  tuple : mg "tuple" = none
  all : mg "all" = none
  sum : mg "sum" = none
  min : mg "min" = none
theorem same_new {H : Hp} {p : Addr} (h : H p = none) (o : HO) : Same H (upd H p o) := fun b u q => by rw [upd_ne (ne_of_none q h)]; exact q

/-! the small promises -/
def spWhole : Sp := fun vs H Q _ => ∃ n : Int, vs = [.int n] ∧ Q (.bl true) H
def spWithin : Sp := fun vs H Q _ => ∃ a b c : Int, vs = [.int a, .int b, .int c] ∧ Q (.bl (decide (b ≤ a ∧ a ≤ c))) H
def spCell (K : PySem.W.Frag) : Sp := fun vs H Q _ => ∃ (a : Addr) (ns : List Int) (k : Int), vs = [.ref a, .int k] ∧ SqL K H a (ns.map V.int) ∧ ns.length ≤ 1000 ∧ 0 ≤ k ∧ ∀ c : Int, Q (.int c) H
def spWell : Sp := fun vs H Q _ => ∃ c : Int, vs = [.int c] ∧ ∀ (p : Addr) (x y : Int), H p = none → 0 ≤ x → 0 ≤ y → y < 2147483629 → Q (.ref p) (upd H p (.lst [.int x, .int y, .int 0]))
def spDraw : Sp := fun vs H Q _ => ∃ (a : Addr) (x y z m : Int), vs = [.ref a, .int m] ∧ H a = some (.lst [.int x, .int y, .int z]) ∧ 0 ≤ x ∧ 0 ≤ y ∧ y < 2147483629 ∧ 0 ≤ z ∧ z < 1000000 ∧ 0 < m ∧ m < 2 ^ 100 ∧
  ∀ (r x' z' : Int), 0 ≤ r → r < m → 0 ≤ x' → z ≤ z' → z' ≤ z + 1 → Q (.int r) (upd H a (.lst [.int x', .int y, .int z']))
section
variable {P : Program} {w : World} {K : PySem.W.Frag} {mg : Str → Option Value} {base : Heap}

theorem scWhole : FnScope ["thing"] ["thing"] (defScope sWhole) := ⟨rfl, rfl, rfl, by decide +kernel, rfl, by decide +kernel, by decide +kernel⟩
theorem ok_whole {f : Addr} {fd : FuncData} (F : Fun K "is_whole" "is_whole" sWhole f fd) (T : Txt K mg) : FnOk P w K mg base CX0 1 f fd ["thing"] spWhole := by
  refine F.ok scWhole (fun vs H Q E h => ?_) (fun cdv A outer s H vs Q E hr h => ?_)
  · obtain ⟨n, rfl, _⟩ := h
    rfl
  obtain ⟨n, rfl, q⟩ := h
  refine ⟨_, pss_one (ps_ret (pe_and (pe_callB call_isi (by rfl) T.isi boot_isinstance (pa_cons (pv 0) (pa_cons (pe_bltn (v := .ty "int") (by rfl) T.int boot_int rfl) pa_nil)))
    (pe_one (pe_not (pe_callB call_isi (by rfl) T.isi boot_isinstance (pa_cons (pv 0) (pa_cons (pe_bltn (v := .ty "bool") (by rfl) T.bool boot_bool rfl) pa_nil))))))), ?_⟩
  refine ⟨_, rfl, V.int n, V.ty "int", _, _, true, rfl, .ty "int", .base (.int n), kit_ty (by decide +kernel), true, rfl, iteT ?_⟩
  exact ⟨_, rfl, V.int n, V.ty "bool", _, _, false, rfl, .ty "bool", .base (.int n), kit_ty (by decide +kernel), false, rfl, q⟩

theorem scWithin : FnScope ["thing", "least", "most"] ["thing", "least", "most"] (defScope sWithin) := ⟨rfl, rfl, rfl, by decide +kernel, rfl, by decide +kernel, by decide +kernel⟩
theorem ok_within {f g : Addr} {fd gd : FuncData} (F : Fun K "is_whole_within" "is_whole_within" sWithin f fd) (G : FnOk P w K mg base CX0 1 g gd ["thing"] spWhole) (bG : Binds K gd ["thing"] []) (kG : PySem.W.keepIn K (.ref g) = true) (mG : mg "is_whole" = some (.ref g)) :
    FnOk P w K mg base CX0 2 f fd ["thing", "least", "most"] spWithin := by
  refine F.ok scWithin (fun vs H Q E h => ?_) (fun cdv A outer s H vs Q E hr h => ?_)
  · obtain ⟨a, b, c, rfl, _⟩ := h
    rfl
  obtain ⟨a, b, c, rfl, q⟩ := h
  refine ⟨_, pss_one (ps_ret (pe_and (pe_call G hr rfl mG kG bG .nil pass0 (pa_cons (pv 0) pa_nil)) (pe_one (pe_chain op_le op_le (pv 1) (pv 0) (pv 2))))), ?_⟩
  refine ⟨_, rfl, a, rfl, true, rfl, iteT ?_⟩
  refine ⟨_, rfl, _, rfl, _, _, rfl, rfl, _, rfl, ?_⟩
  by_cases h1 : b ≤ a
  · rw [decide_eq_true h1]
    refine iteT ?_
    refine ⟨_, rfl, _, _, rfl, rfl, ?_⟩
    have e : decide (b ≤ a ∧ a ≤ c) = decide (a ≤ c) := by simp [h1]
    rw [e] at q
    exact q
  · rw [decide_eq_false h1]
    refine iteF ?_
    have e : decide (b ≤ a ∧ a ≤ c) = false := by simp [h1]
    rw [e] at q
    exact q

theorem scCell : FnScope ["_law_script", "_law_k"] ["_law_script", "_law_k"] (defScope sCell) := ⟨rfl, rfl, rfl, by decide +kernel, rfl, by decide +kernel, by decide +kernel⟩
theorem ok_cell {f : Addr} {fd : FuncData} (F : Fun K "_law_cell_at" "_law_cell_at" sCell f fd) (T : Txt K mg) : FnOk P w K mg base CX0 1 f fd ["_law_script", "_law_k"] (spCell K) := by
  refine F.ok scCell (fun vs H Q E h => ?_) (fun cdv A outer s H vs Q E hr h => ?_)
  · obtain ⟨a, ns, k, rfl, _⟩ := h
    rfl
  obtain ⟨a, ns, k, rfl, hS, hn, hk, q⟩ := h
  refine ⟨_, pss_cons (ps_if (pt_cmpR op_lt (pv 1) (pe_callB call_len_seq (by rfl) T.len PySem.boot_len (pa_cons (pv 0) pa_nil)) (nomark _)) (pss_one (ps_ret (pe_ix ix_list (pv 0) (pv 1) (fun _ _ => rfl)))) pss_nil)
    (pss_one (ps_ret pe_int)), ?_⟩
  refine ⟨_, rfl, _, rfl, a, _, rfl, .inl hS, _, _, rfl, rfl, _, rfl, ?_⟩
  refine ite2 (fun c => ?_) (fun c => ?_)
  · have c' : k < (((ns.map V.int).length : Nat) : Int) := of_decide_eq_true c
    rw [List.length_map] at c'
    have hk' : k.toNat < ns.length := by omega
    have ek : k = ((k.toNat : Nat) : Int) := by omega
    have g : atI (ns.map V.int) ((k.toNat : Nat) : Int) = some (.int ns[k.toNat]) := atI_nat (by rw [List.getElem?_map, List.getElem?_eq_getElem hk'] <;> rfl)
    rw [← ek] at g
    exact ⟨_, rfl, _, rfl, a, _, _, _, rfl, rfl, hS, g, q _⟩
  · exact q 0

theorem scWell : FnScope ["_law_cell"] ["_law_cell"] (defScope sWell) := ⟨rfl, rfl, rfl, by decide +kernel, rfl, by decide +kernel, by decide +kernel⟩
theorem ok_well {f : Addr} {fd : FuncData} (F : Fun K "_law_well" "_law_well" sWell f fd) (T : Txt K mg) : FnOk P w K mg base CX0 1 f fd ["_law_cell"] spWell := by
  refine F.ok scWell (fun vs H Q E h => ?_) (fun cdv A outer s H vs Q E hr h => ?_)
  · obtain ⟨c, rfl, _⟩ := h
    rfl
  obtain ⟨c, rfl, q⟩ := h
  refine ⟨_, pss_one (ps_ret (pe_lst (pa_cons (pe_op op_mul (pv 0) (pe_callTy call_int1 (by rfl) T.int boot_int (pa_cons (pe_cmpR op_ge (pv 0) (pe_op op_pow pe_int pe_int) (nomark _)) pa_nil)))
    (pa_cons (pe_op op_mod (pv 0) pe_int) (pa_cons pe_int pa_nil))))), ?_⟩
  refine ⟨_, rfl, _, rfl, _, _, rfl, rfl, ⟨by decide, by decide, by decide⟩, _, _, rfl, rfl, .inr ⟨_, rfl, ?_⟩⟩
  have b : ∀ k : Bool, CMul c (if k = true then 1 else 0) := fun k => .inr (by cases k <;> decide)
  refine ⟨_, _, rfl, rfl, b _, _, rfl, _, _, rfl, rfl, (by show (0 : Int) < 2147483629; decide), (by show 3 ≤ sizeLine; decide), fun p hp => ?_⟩
  have m0 : 0 ≤ c % 2147483629 := Int.emod_nonneg _ (by decide)
  have m1 : c % 2147483629 < 2147483629 := Int.emod_lt_of_pos _ (by decide)
  refine q p _ _ hp ?_ m0 m1
  by_cases hc : c ≥ 10 ^ (18 : Int).toNat
  · rw [decide_eq_true hc]
    have : (0 : Int) ≤ 10 ^ (18 : Int).toNat := by decide
    show 0 ≤ c * 1
    omega
  · rw [decide_eq_false hc]
    show 0 ≤ c * 0
    omega

theorem scDraw : FnScope ["_law_well_here", "_law_many", "_law_found", "_law_number"] ["_law_well_here", "_law_many"] (defScope sDraw) := ⟨rfl, rfl, rfl, by decide +kernel, rfl, by decide +kernel, by decide +kernel⟩
theorem ok_draw {f : Addr} {fd : FuncData} (F : Fun K "_law_draw" "_law_draw" sDraw f fd) : FnOk P w K mg base CX0 1 f fd ["_law_well_here", "_law_many"] spDraw := by
  refine F.ok scDraw (fun vs H Q E h => ?_) (fun cdv A outer s H vs Q E hr h => ?_)
  · obtain ⟨a, x, y, z, m, rfl, _⟩ := h
    rfl
  obtain ⟨a, x, y, z, m, rfl, hL, hx, hy, hy2, hz, hz2, hm, hm2, q⟩ := h
  have nd := scDraw.nd
  refine ⟨_, pss_cons (ps_if (pt_cmpR op_gt (pe_ix ix_list (pv 0) pe_int (fun _ _ => rfl)) pe_int (nomark _))
      (pss_cons (ps_set (i := 2) nd rfl (Or.inl rfl) (pe_op op_mod (pe_ix ix_list (pv 0) pe_int (fun _ _ => rfl)) (pv 1)))
        (pss_cons (ps_asg (pe_op op_fdivW (pe_ix ix_list (pv 0) pe_int (fun _ _ => rfl)) (pv 1)) (pg_sub (pv 0) pe_int set_list))
          (pss_one (ps_ret (pv 2))))) pss_nil)
    (pss_cons (ps_asg (pe_op op_add (pe_ix ix_list (pv 0) pe_int (fun _ _ => rfl)) pe_int) (pg_sub (pv 0) pe_int set_list))
    (pss_cons (ps_set (i := 3) nd rfl (Or.inl rfl) (pe_op op_mod (pe_op op_mul (pe_op op_add (pe_op op_add (pe_ix ix_list (pv 0) pe_int (fun _ _ => rfl)) (pe_op op_mul pe_int (pe_ix ix_list (pv 0) pe_int (fun _ _ => rfl)))) pe_int) pe_int) pe_int))
    (pss_cons (ps_set (i := 3) nd rfl (Or.inl rfl) (pe_op op_mod (pe_op op_mul (pv 3) (pe_op op_add (pe_op op_add (pe_op op_fdiv (pv 3) pe_int) pe_int) (pe_ix ix_list (pv 0) pe_int (fun _ _ => rfl)))) pe_int))
    (pss_one (ps_ret (pe_op op_mod (pe_op op_fdiv (pe_op op_mod (pe_op op_mul (pv 3) (pe_op op_add (pe_op op_fdiv (pv 3) pe_int) pe_int)) pe_int) pe_int) (pv 1))))))), ?_⟩
  refine ⟨_, rfl, a, _, _, _, rfl, rfl, SqL.of hL, rfl, _, _, rfl, rfl, _, rfl, ?_⟩
  refine ite2 (fun c => ?_) (fun c => ?_)
  · have c' : x > 0 := of_decide_eq_true c
    refine ⟨_, rfl, a, _, _, _, rfl, rfl, SqL.of hL, rfl, _, rfl, _, _, rfl, rfl, hm, ?_⟩
    refine ⟨_, rfl, a, _, _, _, rfl, rfl, SqL.of hL, rfl, _, rfl, _, _, rfl, rfl, wide_div (b := 100) hm (by omega) (by decide) (by decide), ?_⟩
    refine ⟨_, rfl, a, _, _, 0, rfl, rfl, hL, rfl, _, rfl, ?_⟩
    exact q _ _ _ (Int.emod_nonneg _ (by omega)) (Int.emod_lt_of_pos _ hm) (Int.ediv_nonneg hx (by omega)) (Int.le_refl _) (by omega)
  · have hL2 : (upd H a (.lst [.int x, .int y, .int (z + 1)])) a = some (.lst [.int x, .int y, .int (z + 1)]) := upd_same
    refine ⟨_, rfl, a, _, _, _, rfl, rfl, SqL.of hL, rfl, _, _, rfl, rfl, ?_⟩
    refine ⟨_, rfl, a, _, _, 2, rfl, rfl, hL, rfl, ?_⟩
    refine ⟨_, rfl, a, _, _, _, rfl, rfl, SqL.of hL2, rfl, _, rfl, a, _, _, _, rfl, rfl, SqL.of hL2, rfl, _, _, rfl, rfl, .inl ⟨by decide, by decide⟩, _, _, rfl, rfl, _, _, rfl, rfl, _, _, rfl, rfl, .inr ⟨by decide, by decide⟩, _, _, rfl, rfl, (by show (0 : Int) < 2147483629; decide), ?_⟩
    have n0 := Int.emod_nonneg ((y + 86969 * (z + 1) + 1) * 48271) (show (2147483629 : Int) ≠ 0 by decide)
    have n1 := Int.emod_lt_of_pos ((y + 86969 * (z + 1) + 1) * 48271) (show (0 : Int) < 2147483629 by decide)
    generalize ((y + 86969 * (z + 1) + 1) * 48271) % 2147483629 = n at n0 n1 ⊢
    refine ⟨_, rfl, _, rfl, _, _, rfl, rfl, ⟨by decide, by decide⟩, _, _, rfl, rfl, _, rfl, a, _, _, _, rfl, rfl, SqL.of hL2, rfl, _, _, rfl, rfl, _, _, rfl, rfl, .inl ⟨by omega, by omega⟩, _, _, rfl, rfl, (by show (0 : Int) < 2147483587; decide), ?_⟩
    have k0 := Int.emod_nonneg (n * (n / 1013 + 69623 + (z + 1))) (show (2147483587 : Int) ≠ 0 by decide)
    have k1 := Int.emod_lt_of_pos (n * (n / 1013 + 69623 + (z + 1))) (show (0 : Int) < 2147483587 by decide)
    generalize (n * (n / 1013 + 69623 + (z + 1))) % 2147483587 = k at k0 k1 ⊢
    refine ⟨_, rfl, _, rfl, _, _, rfl, rfl, ⟨by decide, by decide⟩, _, _, rfl, rfl, _, _, rfl, rfl, .inl ⟨by omega, by omega⟩, _, _, rfl, rfl, (by show (0 : Int) < 2147483563; decide), _, _, rfl, rfl, ⟨by decide, by decide⟩, _, rfl, _, _, rfl, rfl, hm, ?_⟩
    exact q _ _ _ (Int.emod_nonneg _ (by omega)) (Int.emod_lt_of_pos _ hm) hx (by omega) (by omega)

/-- _law_one: SOME item of the list -/
def spOne (K : PySem.W.Frag) : Sp := fun vs H Q _ => ∃ (a l : Addr) (x y z : Int) (xs : List V), vs = [.ref a, .ref l] ∧ H a = some (.lst [.int x, .int y, .int z]) ∧ 0 ≤ x ∧ 0 ≤ y ∧ y < 2147483629 ∧ 0 ≤ z ∧ z < 1000000 ∧ H l = some (.lst xs) ∧ a ≠ l ∧ 0 < xs.length ∧ xs.length < 1000 ∧
  ∀ (i : Nat) (v : V) (x' z' : Int), xs[i]? = some v → 0 ≤ x' → z ≤ z' → z' ≤ z + 1 → Q v (upd H a (.lst [.int x', .int y, .int z']))
theorem scOne : FnScope ["_law_well_here", "_law_some"] ["_law_well_here", "_law_some"] (defScope sOne) := ⟨rfl, rfl, rfl, by decide +kernel, rfl, by decide +kernel, by decide +kernel⟩
theorem ok_one {f g : Addr} {fd gd : FuncData} (F : Fun K "_law_one" "_law_one" sOne f fd) (T : Txt K mg) (G : FnOk P w K mg base CX0 1 g gd ["_law_well_here", "_law_many"] spDraw) (bG : Binds K gd ["_law_well_here", "_law_many"] []) (kG : PySem.W.keepIn K (.ref g) = true) (mG : mg "_law_draw" = some (.ref g)) :
    FnOk P w K mg base CX0 2 f fd ["_law_well_here", "_law_some"] (spOne K) := by
  refine F.ok scOne (fun vs H Q E h => ?_) (fun cdv A outer s H vs Q E hr h => ?_)
  · obtain ⟨a, l, x, y, z, xs, rfl, _⟩ := h
    rfl
  obtain ⟨a, l, x, y, z, xs, rfl, hL, hx, hy, hy2, hz, hz2, hl, hal, hn0, hn1, q⟩ := h
  refine ⟨_, pss_one (ps_ret (pe_ix ix_list (pv 1) (pe_call G hr rfl mG kG bG .nil pass0 (pa_cons (pv 0) (pa_cons (pe_callB call_len_seq (by rfl) T.len PySem.boot_len (pa_cons (pv 1) pa_nil)) pa_nil))) (fun _ _ => rfl))), ?_⟩
  refine ⟨_, rfl, _, rfl, _, rfl, l, _, rfl, .inl (SqL.of hl), a, x, y, z, _, rfl, hL, hx, hy, hy2, hz, hz2, by omega, by omega, fun r x' z' r0 r1 x0 z0 z1 => ?_⟩
  have hr' : r.toNat < xs.length := by omega
  have er : r = ((r.toNat : Nat) : Int) := by omega
  have g : atI xs ((r.toNat : Nat) : Int) = some xs[r.toNat] := atI_nat (List.getElem?_eq_getElem hr')
  rw [← er] at g
  exact ⟨l, _, _, _, rfl, rfl, SqL.of (by rw [upd_ne hal.symm]; exact hl), g, q r.toNat _ _ _ (List.getElem?_eq_getElem hr') x0 z0 z1⟩
end
end TA

set_option Elab.async false
set_option maxRecDepth 100000
set_option maxHeartbeats 4000000
namespace TA
open PySem L2 PyProof.Rows
set_option linter.unusedVariables false
/-! what a hand knows, on the heap: ints, None, tuples of two -/
inductive Kn (H : Hp) : V → PyData → Prop
  | int (i : Int) : Kn H (.int i) (.int i)
  | non : Kn H .non .none
  | tup {a : Addr} {x y : V} {d e : PyData} : H a = some (.tup [x, y]) → Kn H x d → Kn H y e → Kn H (.ref a) (.tuple [d, e])
/-- all tuples stand as they stood -/
def Tups (H H' : Hp) : Prop := ∀ a xs, H a = some (.tup xs) → H' a = some (.tup xs)
theorem Kn.mono {H H' : Hp} (s : Tups H H') : ∀ {v d}, Kn H v d → Kn H' v d
  | _, _, .int i => .int i
  | _, _, .non => .non
  | _, _, .tup h a b => .tup (s _ _ h) (a.mono s) (b.mono s)
theorem Kn.dp {K : PySem.W.Frag} {H : Hp} : ∀ {v d}, Kn H v d → Dp K H v d
  | _, _, .int i => .int i
  | _, _, .non => .non
  | _, _, .tup h a b => .tup (SqT.of h) (.cons a.dp (.cons b.dp .nil))
theorem Tups.same {H H' : Hp} (s : Same H H') : Tups H H' := fun a xs h => s _ _ h
theorem Tups.updL {H : Hp} {p : Addr} {xs : List V} {o : HO} (h : H p = some (.lst xs)) : Tups H (upd H p o) := fun a ys e => by
  rw [upd_ne (ne_of e h (fun q => by cases q))]
  exact e
theorem Tups.updD {H : Hp} {p : Addr} {kvs : List (List Key × V)} {o : HO} (h : H p = some (.dT kvs)) : Tups H (upd H p o) := fun a ys e => by
  rw [upd_ne (ne_of e h (fun q => by cases q))]
  exact e
theorem Tups.trans {H H1 H2 : Hp} (a : Tups H H1) (b : Tups H1 H2) : Tups H H2 := fun x xs h => b _ _ (a _ _ h)
inductive KnAll (H : Hp) : List V → List PyData → Prop
  | nil : KnAll H [] []
  | cons {v vs d ds} : Kn H v d → KnAll H vs ds → KnAll H (v :: vs) (d :: ds)
theorem KnAll.mono {H H' : Hp} (s : Tups H H') : ∀ {vs ds}, KnAll H vs ds → KnAll H' vs ds
  | _, _, .nil => .nil
  | _, _, .cons a b => .cons (a.mono s) (b.mono s)
theorem KnAll.len {H : Hp} : ∀ {vs ds}, KnAll H vs ds → vs.length = ds.length
  | _, _, .nil => rfl
  | _, _, .cons _ b => congrArg (· + 1) b.len
theorem KnAll.snoc {H : Hp} {v d} (k : Kn H v d) : ∀ {vs ds}, KnAll H vs ds → KnAll H (vs ++ [v]) (ds ++ [d])
  | _, _, .nil => .cons k .nil
  | _, _, .cons a b => .cons a (b.snoc k)
theorem KnAll.getD {H : Hp} : ∀ {vs ds} (t : Nat), KnAll H vs ds → Kn H (vs.getD t .non) (ds.getD t .none)
  | _, _, _, .nil => by simp; exact .non
  | _, _, 0, .cons a b => by simpa using a
  | _, _, t + 1, .cons a b => by simpa using b.getD t

/-! the mirror -/
def upf {α : Type} (f : Nat → α) (h : Nat) (x : α) : Nat → α := fun i => if i = h then x else f i
theorem upf_same {α : Type} {f : Nat → α} {h : Nat} {x : α} : upf f h x h = x := by unfold upf; rw [if_pos rfl]
theorem upf_ne {α : Type} {f : Nat → α} {h i : Nat} {x : α} (e : i ≠ h) : upf f h x i = f i := by unfold upf; rw [if_neg e]
theorem two_get {α : Type} (f : Nat → α) {h : Nat} (hh : h < 2) : [f 0, f 1][h]? = some (f h) := by
  rcases h with _ | _ | h
  · rfl
  · rfl
  · omega
theorem two_set {α : Type} (f : Nat → α) {h : Nat} (hh : h < 2) (x : α) : [f 0, f 1].set h x = [upf f h x 0, upf f h x 1] := by
  rcases h with _ | _ | h
  · rfl
  · rfl
  · omega
structure M where
  k : Nat → PyData
  c : Nat → List PyData
  l : Nat → Nat
def M.step (m : M) (h : Nat) : M :=
  if m.l h < (m.c h).length then { k := upf m.k h (.tuple [m.k h, (m.c (1 - h)).getD (m.l h) .none]), c := m.c, l := upf m.l h (m.l h + 1) }
  else { k := m.k, c := upf m.c h (m.c h ++ [m.k h]), l := m.l }
def M.run (m : M) (hs : List Nat) : M := hs.foldl M.step m
def M.done (m : M) (h : Nat) : Nat := m.l h + (m.c h).length
def M0 (a b : Int) : M := { k := fun h => if h = 0 then .int a else .int b, c := fun _ => [], l := fun _ => 0 }
def M.wf (m : M) : Prop := ∀ h < 2, (m.c h).length = m.l h ∨ (m.c h).length = m.l h + 1
theorem M.wf0 (a b : Int) : (M0 a b).wf := fun h _ => .inl rfl
theorem M.wf_step {m : M} (w : m.wf) {h : Nat} (hh : h < 2) : (m.step h).wf := fun i hi => by
  unfold M.step
  have wi := w i hi
  have wh := w h hh
  by_cases c : m.l h < (m.c h).length
  · rw [if_pos c]
    show (m.c i).length = upf m.l h (m.l h + 1) i ∨ (m.c i).length = upf m.l h (m.l h + 1) i + 1
    by_cases e : i = h
    · subst e; rw [upf_same]; omega
    · rw [upf_ne e]; exact wi
  · rw [if_neg c]
    show (upf m.c h (m.c h ++ [m.k h]) i).length = m.l i ∨ (upf m.c h (m.c h ++ [m.k h]) i).length = m.l i + 1
    by_cases e : i = h
    · subst e; rw [upf_same, List.length_append]; show _ + 1 = _ ∨ _ + 1 = _; omega
    · rw [upf_ne e]; exact wi
theorem M.done_step (m : M) (h i : Nat) : (m.step h).done i = m.done i + (if i = h then 1 else 0) := by
  unfold M.step M.done
  by_cases c : m.l h < (m.c h).length
  · rw [if_pos c]
    show upf m.l h (m.l h + 1) i + (m.c i).length = _
    by_cases e : i = h
    · subst e; rw [upf_same, if_pos rfl]; omega
    · rw [upf_ne e, if_neg e]; rfl
  · rw [if_neg c]
    show m.l i + (upf m.c h (m.c h ++ [m.k h]) i).length = _
    by_cases e : i = h
    · subst e; rw [upf_same, if_pos rfl, List.length_append]; show _ + (_ + 1) = _; omega
    · rw [upf_ne e, if_neg e]; rfl
theorem M.run_snoc (m : M) (hs : List Nat) (h : Nat) : m.run (hs ++ [h]) = (m.run hs).step h := by
  unfold M.run
  rw [List.foldl_append]
  rfl
theorem M.done_run (m : M) (i : Nat) : ∀ hs : List Nat, (m.run hs).done i = m.done i + hs.count i := by
  intro hs
  induction hs generalizing m with
  | nil => rfl
  | cons h r ih =>
    show ((m.step h).run r).done i = _
    rw [ih, M.done_step, List.count_cons]
    by_cases e : i = h
    · subst e; simp; omega
    · have e2 : ¬ h = i := fun q => e q.symm
      simp [e, e2]
theorem M.wf_run {m : M} (w : m.wf) : ∀ {hs : List Nat}, (∀ h ∈ hs, h < 2) → (m.run hs).wf := by
  intro hs
  induction hs generalizing m with
  | nil => intro _; exact w
  | cons h r ih => intro q; exact ih (M.wf_step w (q h List.mem_cons_self)) (fun x hx => q x (List.mem_cons_of_mem _ hx))
/-- data as they may be compared -/
def Ok (n : Nat) (d : PyData) : Prop := d.canLay0 = true ∧ d.depth ≤ n
theorem Ok.up {n m : Nat} {d : PyData} (h : Ok n d) (e : n ≤ m) : Ok m d := ⟨h.1, Nat.le_trans h.2 e⟩
theorem Ok.pair {n : Nat} {d e : PyData} (h : Ok n d) (g : Ok n e) : Ok (n + 1) (.tuple [d, e]) := by
  refine ⟨?_, ?_⟩
  · simp [PyData.canLay0, PyData.canLayAll0, h.1, g.1]
  · have h2 := h.2
    have g2 := g.2
    simp only [PyData.depth, PyData.depthAll]
    omega
theorem Ok.lst {n : Nat} {d e : PyData} (h : Ok n d) (g : Ok n e) : Ok (n + 1) (.list [d, e]) := by
  refine ⟨?_, ?_⟩
  · simp [PyData.canLay0, PyData.canLayAll0, h.1, g.1]
  · have h2 := h.2
    have g2 := g.2
    simp only [PyData.depth, PyData.depthAll]
    omega
theorem Ok.shaped {d : PyData} (h : Ok 64 d) : SeqAt.shaped d = true := by
  unfold SeqAt.shaped
  rw [h.1, decide_eq_true h.2]
  rfl
end TA

set_option Elab.async false
set_option maxRecDepth 100000
set_option maxHeartbeats 4000000
namespace TA
open PySem L2 PyProof.Rows
set_option linter.unusedVariables false
def M.ok (n : Nat) (m : M) : Prop := ∀ h < 2, Ok n (m.k h) ∧ ∀ d ∈ m.c h, Ok n d
theorem ok_int {n : Nat} (i : Int) (h : 0 < n) : Ok n (.int i) := ⟨rfl, by show PyData.depth (.int i) ≤ n; simp only [PyData.depth]; omega⟩
theorem ok_none {n : Nat} (h : 0 < n) : Ok n .none := ⟨rfl, by show PyData.depth .none ≤ n; simp only [PyData.depth]; omega⟩
theorem M.ok0 (a b : Int) : (M0 a b).ok 1 := fun h _ => ⟨by
  show Ok 1 (if h = 0 then .int a else .int b)
  split
  · exact ok_int a (by decide)
  · exact ok_int b (by decide), fun d hd => by cases hd⟩
theorem M.ok_step {n : Nat} {m : M} (o : m.ok n) (h0 : 0 < n) {h : Nat} (hh : h < 2) : (m.step h).ok (n + 1) := fun i hi => by
  unfold M.step
  by_cases c : m.l h < (m.c h).length
  · rw [if_pos c]
    refine ⟨?_, fun d hd => ((o i hi).2 d hd).up (by omega)⟩
    show Ok (n + 1) (upf m.k h _ i)
    by_cases e : i = h
    · subst e
      rw [upf_same]
      refine Ok.pair (o i hi).1 ?_
      cases g : (m.c (1 - i))[m.l i]? with
      | none => rw [List.getD_eq_getElem?_getD, g]; exact ok_none h0
      | some d => rw [List.getD_eq_getElem?_getD, g]; exact (o (1 - i) (by omega)).2 d (List.mem_of_getElem? g)
    · rw [upf_ne e]; exact (o i hi).1.up (by omega)
  · rw [if_neg c]
    refine ⟨(o i hi).1.up (by omega), fun d hd => ?_⟩
    have hd' : d ∈ upf m.c h (m.c h ++ [m.k h]) i := hd
    by_cases e : i = h
    · subst e
      rw [upf_same] at hd'
      rcases List.mem_append.mp hd' with q | q
      · exact ((o i hi).2 d q).up (by omega)
      · have : d = m.k i := by simpa using q
        rw [this]
        exact (o i hi).1.up (by omega)
    · rw [upf_ne e] at hd'; exact ((o i hi).2 d hd').up (by omega)
theorem M.ok_run {hs : List Nat} : ∀ {n : Nat} {m : M}, m.ok n → 0 < n → (∀ h ∈ hs, h < 2) → (m.run hs).ok (n + hs.length) := by
  induction hs with
  | nil => intro n m o _ _; exact o
  | cons h r ih =>
    intro n m o h0 q
    have := ih (M.ok_step o h0 (q h List.mem_cons_self)) (by omega) (fun x hx => q x (List.mem_cons_of_mem _ hx))
    rw [show n + 1 + r.length = n + (h :: r).length by rw [List.length_cons]; omega] at this
    exact this
def M.res (m : M) (deep : Nat) (h : Nat) : PyData := if m.done h = 2 * deep then m.k h else .none
theorem M.res_ok {n : Nat} {m : M} (o : m.ok n) (h0 : 0 < n) (deep : Nat) {h : Nat} (hh : h < 2) : Ok n (m.res deep h) := by
  unfold M.res
  split
  · exact (o h hh).1
  · exact ok_none h0
theorem M.stopped {m : M} (w : m.wf) {deep h : Nat} (hh : h < 2) (hd : m.done h ≤ 2 * deep) : m.l h = deep ↔ m.done h = 2 * deep := by
  have wh := w h hh
  unfold M.done at hd ⊢
  omega
/-- what is told: two places -/
def told (a b : Int) (hs : List Nat) (deep : Nat) : PyData := .list [((M0 a b).run hs).res deep 0, ((M0 a b).run hs).res deep 1]
theorem told_shaped (a b : Int) {hs : List Nat} (q : ∀ h ∈ hs, h < 2) (hz : hs.length ≤ 40) (deep : Nat) : SeqAt.shaped (told a b hs deep) = true := by
  have o := M.ok_run (M.ok0 a b) (by decide) q
  exact ((M.res_ok o (by omega) deep (h := 0) (by decide)).lst (M.res_ok o (by omega) deep (h := 1) (by decide))).up (by omega) |>.shaped
theorem eqv_self {d : PyData} (h : SeqAt.shaped d = true) : PyData.eqv d d = true := SeqAt.eqv_refl d (SeqAt.canLay_of_shaped h)

/-! a walk of n turns, whatever is walked: the word Pv is kept from turn to turn -/
theorem turns {J : It} (n : Nat) {H0 : Hp} {Qd : Hp → Prop} {B : (Hp → Prop) → V → Hp → Prop} (Pv : Nat → Hp → Prop) (start : Pv 0 H0) (last : ∀ H, Pv n H → J.stop n H ∧ Qd H)
    (turn : ∀ i H, i < n → Pv i H → J.go i H ∧ ∀ x H', J.yld i H x H' → B (Pv (i + 1)) x H') :
    ∃ W : Nat → Nat → Hp → Prop, (∃ m, W 0 m H0) ∧ ∀ i m H, W i m H →
      (J.stop i H ∧ Qd H) ∨ (J.go i H ∧ ∃ Nx : Hp → Prop, (∀ H', Nx H' → ∃ m', m' < m ∧ W (i + 1) m' H') ∧ ∀ x H', J.yld i H x H' → B Nx x H') := by
  refine ⟨fun i m H => i + m = n ∧ Pv i H, ⟨n, by omega, start⟩, fun i m H h => ?_⟩
  obtain ⟨hm, word⟩ := h
  cases m with
  | zero =>
    have hin : i = n := by omega
    rw [hin] at word ⊢
    exact Or.inl (last H word)
  | succ m =>
    obtain ⟨go, step⟩ := turn i H (by omega) word
    exact Or.inr ⟨go, Pv (i + 1), fun H' w' => ⟨m, by omega, by omega, w'⟩, step⟩
theorem list_turns {K : PySem.W.Frag} {a : Addr} {xs : List V} {H0 : Hp} {Qd : Hp → Prop} {B : (Hp → Prop) → V → Hp → Prop} (Pv : Nat → Hp → Prop) (start : Pv 0 H0) (still : ∀ i H, i ≤ xs.length → Pv i H → SqL K H a xs)
    (turn : ∀ i x H, xs[i]? = some x → Pv i H → B (Pv (i + 1)) x H) (last : ∀ H, Pv xs.length H → Qd H) :
    ∃ W : Nat → Nat → Hp → Prop, (∃ m, W 0 m H0) ∧ ∀ i m H, W i m H →
      ((Itl K a).stop i H ∧ Qd H) ∨ ((Itl K a).go i H ∧ ∃ Nx : Hp → Prop, (∀ H', Nx H' → ∃ m', m' < m ∧ W (i + 1) m' H') ∧ ∀ x H', (Itl K a).yld i H x H' → B Nx x H') :=
  turns xs.length Pv start (fun H w => ⟨⟨xs, still _ H (Nat.le_refl _) w, Nat.le_refl _⟩, last H w⟩) fun i H hi w =>
    have there := still i H (Nat.le_of_lt hi) w
    ⟨⟨xs, xs[i], there, List.getElem?_eq_getElem hi⟩, fun x H' ⟨same, given⟩ => by rw [same]; exact turn i x H (given xs there) w⟩
theorem tup_turns {K : PySem.W.Frag} {a : Addr} {xs : List V} {H0 : Hp} {Qd : Hp → Prop} {B : (Hp → Prop) → V → Hp → Prop} (Pv : Nat → Hp → Prop) (start : Pv 0 H0) (still : ∀ i H, i ≤ xs.length → Pv i H → SqT K H a xs)
    (turn : ∀ i x H, xs[i]? = some x → Pv i H → B (Pv (i + 1)) x H) (last : ∀ H, Pv xs.length H → Qd H) :
    ∃ W : Nat → Nat → Hp → Prop, (∃ m, W 0 m H0) ∧ ∀ i m H, W i m H →
      ((Itt K a).stop i H ∧ Qd H) ∨ ((Itt K a).go i H ∧ ∃ Nx : Hp → Prop, (∀ H', Nx H' → ∃ m', m' < m ∧ W (i + 1) m' H') ∧ ∀ x H', (Itt K a).yld i H x H' → B Nx x H') :=
  turns xs.length Pv start (fun H w => ⟨⟨xs, still _ H (Nat.le_refl _) w, Nat.le_refl _⟩, last H w⟩) fun i H hi w =>
    have there := still i H (Nat.le_of_lt hi) w
    ⟨⟨xs, xs[i], there, List.getElem?_eq_getElem hi⟩, fun x H' ⟨same, given⟩ => by rw [same]; exact turn i x H (given xs there) w⟩
theorem range_turns {lo : Int} {n : Nat} {H0 : Hp} {Qd : Hp → Prop} {B : (Hp → Prop) → V → Hp → Prop} (Pv : Nat → Hp → Prop) (start : Pv 0 H0)
    (turn : ∀ i H, i < n → Pv i H → B (Pv (i + 1)) (.int (lo + i)) H) (last : ∀ H, Pv n H → Qd H) :
    ∃ W : Nat → Nat → Hp → Prop, (∃ m, W 0 m H0) ∧ ∀ i m H, W i m H →
      ((Itr lo n).stop i H ∧ Qd H) ∨ ((Itr lo n).go i H ∧ ∃ Nx : Hp → Prop, (∀ H', Nx H' → ∃ m', m' < m ∧ W (i + 1) m' H') ∧ ∀ x H', (Itr lo n).yld i H x H' → B Nx x H') :=
  turns n Pv start (fun H w => ⟨Nat.le_refl _, last H w⟩) fun i H hi w => ⟨hi, fun x H' ⟨same, given⟩ => by rw [same, given]; exact turn i H hi w⟩
theorem small13 {n : Nat} (h : n ≤ 100000) : n ≤ sizeLine := Nat.le_trans h (by decide)

/-- xs[i] as an augmented assignment reads it, 0 ≤ i -/
theorem get_list {X : Cx} : PGet X (fun o i H Q => ∃ (p : Addr) (xs : List V) (k : Nat) (v : V), o = .ref p ∧ i = .int (k : Int) ∧ SqL X.K H p xs ∧ xs[k]? = some v ∧ Q v H) := by
  intro pins s σ H o i ov iv Q I ro ri h
  obtain ⟨p, xs, k, v, rfl, rfl, hq, he, q⟩ := h
  cases ro
  obtain ⟨t, rfl⟩ := ri
  obtain ⟨its, r, pl, hz⟩ := I.list hq
  obtain ⟨w, ew, rw'⟩ := r.get he
  have hl := r.length
  have hn := line63
  have hk : k < xs.length := (List.getElem?_eq_some_iff.mp he).1
  refine getItem_listL (l := its) pl.isList (by omega) ?_ (by simpa using ew) ⟨v, H, I, rw', q⟩
  omega
end TA

set_option Elab.async false
set_option maxRecDepth 100000
set_option maxHeartbeats 4000000
namespace TA
open PySem L2 PyProof.Rows
set_option linter.unusedVariables false
structure Txt2 (K : PySem.W.Frag) (mg : Str → Option Value) : Prop where
  two : ∃ t, mg "STEPS" = some (.int 2 t)
  five : ∃ t, mg "MOST_ROUNDS" = some (.int 5 t)
  hands : ∃ hA, mg "HANDS" = some (.ref hA) ∧ ∀ H, SqT K H hA [.int 0, .int 1]
structure Def (P : Program) (w : World) (K : PySem.W.Frag) (mg : Str → Option Value) (base : Heap) (x : Str) (ps : List Str) (k : Nat) (sp : Sp) (f : Addr) (fd : FuncData) : Prop where
  G : FnOk P w K mg base CX0 k f fd ps sp
  b : Binds K fd ps []
  k : PySem.W.keepIn K (.ref f) = true
  m : mg x = some (.ref f)
def spHand : Sp := fun vs H Q _ => ∃ a : Int, vs = [.int a] ∧ Q (.bl (decide (0 ≤ a ∧ a ≤ 1))) H
def spInputs : Sp := fun vs H Q _ => ∃ (t : Addr) (a b : Int), vs = [.ref t] ∧ H t = some (.tup [.int a, .int b]) ∧ 0 ≤ a ∧ 0 ≤ b ∧ ∀ H', Same H H' → Q (.bl true) H'
/-- the list of hands at p -/
def hl (hs : List Nat) : List V := hs.map fun h : Nat => V.int (h : Int)
def spWeaving (K : PySem.W.Frag) : Sp := fun vs H Q _ => ∃ (p : Addr) (hs : List Nat) (d : Nat), vs = [.ref p, .int (d : Int)] ∧ SqL K H p (hl hs) ∧ (∀ h ∈ hs, h < 2) ∧ (∀ h < 2, hs.count h ≤ 2 * d) ∧ hs.length ≤ 1000 ∧ ∀ H', Same H H' → Q (.bl true) H'
def spPut (K : PySem.W.Frag) : Sp := fun vs H Q _ => ∃ (c : Addr) (ws : List V) (t : Nat), vs = [.ref c, .int (t : Int)] ∧ SqL K H c ws ∧ Q (ws.getD t .non) H
theorem hl_ints (hs : List Nat) : hl hs = (hs.map fun h : Nat => (h : Int)).map V.int := by
  unfold hl
  rw [List.map_map]
  rfl
theorem hl_count (hs : List Nat) (h : Nat) : (hs.map fun h : Nat => (h : Int)).count (h : Int) = hs.count h := by
  induction hs with
  | nil => rfl
  | cons x r ih =>
    rw [List.map_cons, List.count_cons, List.count_cons, ih]
    by_cases e : x = h
    · subst e; simp
    · have : ¬ ((x : Int) = (h : Int)) := by omega
      simp [e, this]
theorem all_rep (n : Nat) : (List.replicate n true).all id = true := by
  induction n with
  | zero => rfl
  | succ n ih => rw [List.replicate_succ, List.all_cons, ih]; rfl
theorem rep_snoc (n : Nat) : ((List.replicate n true).map V.bl) ++ [V.bl true] = (List.replicate (n + 1) true).map V.bl := by
  rw [List.replicate_succ', List.map_append]
  rfl
section
variable {P : Program} {w : World} {K : PySem.W.Frag} {mg : Str → Option Value} {base : Heap}
theorem scHand : FnScope ["thing"] ["thing"] (defScope sHand) := ⟨rfl, rfl, rfl, by decide +kernel, rfl, by decide +kernel, by decide +kernel⟩
theorem ok_hand {f g : Addr} {fd gd : FuncData} (F : Fun K "is_hand" "is_hand" sHand f fd) (W : Def P w K mg base "is_whole_within" ["thing", "least", "most"] 2 spWithin g gd) : FnOk P w K mg base CX0 3 f fd ["thing"] spHand := by
  refine F.ok scHand (fun vs H Q E h => ?_) (fun cdv A outer s H vs Q E hr h => ?_)
  · obtain ⟨a, rfl, _⟩ := h
    rfl
  obtain ⟨a, rfl, q⟩ := h
  refine ⟨_, pss_one (ps_ret (pe_call W.G hr rfl W.m W.k W.b .nil pass0 (pa_cons (pv 0) (pa_cons pe_int (pa_cons pe_int pa_nil))))), ?_⟩
  exact ⟨_, rfl, a, 0, 1, rfl, q⟩
theorem scPut : FnScope ["cells", "at"] ["cells", "at"] (defScope sPut) := ⟨rfl, rfl, rfl, by decide +kernel, rfl, by decide +kernel, by decide +kernel⟩
theorem ok_put {f : Addr} {fd : FuncData} (F : Fun K "put_in" "put_in" sPut f fd) (T : Txt K mg) : FnOk P w K mg base CX0 1 f fd ["cells", "at"] (spPut K) := by
  refine F.ok scPut (fun vs H Q E h => ?_) (fun cdv A outer s H vs Q E hr h => ?_)
  · obtain ⟨c, ws, t, rfl, _⟩ := h
    rfl
  obtain ⟨c, ws, t, rfl, hS, q⟩ := h
  refine ⟨_, pss_one (ps_ret (pe_ifExp (pt_cmpR op_lt (pv 1) (pe_callB call_len_seq (by rfl) T.len PySem.boot_len (pa_cons (pv 0) pa_nil)) (nomark _)) (pe_ix ix_list (pv 0) (pv 1) (fun _ _ => rfl)) pe_non)), ?_⟩
  refine ⟨_, rfl, _, rfl, c, _, rfl, .inl hS, _, _, rfl, rfl, _, rfl, ?_⟩
  refine ite2 (fun c1 => ?_) (fun c1 => ?_)
  · have c2 : ((t : Nat) : Int) < ((ws.length : Nat) : Int) := of_decide_eq_true c1
    have ht : t < ws.length := by omega
    have e : ws.getD t .non = ws[t] := by rw [List.getD_eq_getElem?_getD, List.getElem?_eq_getElem ht]; rfl
    rw [e] at q
    exact ⟨_, rfl, _, rfl, c, _, _, _, rfl, rfl, hS, atI_nat (List.getElem?_eq_getElem ht), q⟩
  · have c2 : ¬ ((t : Nat) : Int) < ((ws.length : Nat) : Int) := of_decide_eq_false (Bool.eq_false_iff.mpr c1)
    have e : ws.getD t .non = .non := by rw [List.getD_eq_getElem?_getD, List.getElem?_eq_none (by omega)]; rfl
    rw [e] at q
    exact q
theorem scInputs : FnScope ["thing", "a"] ["thing"] (defScope sInputs) := ⟨rfl, rfl, rfl, by decide +kernel, rfl, by decide +kernel, by decide +kernel⟩
theorem ok_inputs {f g : Addr} {fd gd : FuncData} (F : Fun K "is_inputs" "is_inputs" sInputs f fd) (T : Txt K mg) (W : Def P w K mg base "is_whole" ["thing"] 1 spWhole g gd) : FnOk P w K mg base CX0 2 f fd ["thing"] spInputs := by
  refine F.ok scInputs (fun vs H Q E h => ?_) (fun cdv A outer s H vs Q E hr h => ?_)
  · obtain ⟨t, a, b, rfl, _⟩ := h
    rfl
  obtain ⟨t, a, b, rfl, ht, ha, hb, q⟩ := h
  have nd := scInputs.nd
  refine ⟨_, pss_one (ps_ret (pe_and (pe_callB call_isi (by rfl) T.isi boot_isinstance (pa_cons (pv 0) (pa_cons (pe_bltn (v := .ty "tuple") (by rfl) T.tuple boot_tuple rfl) pa_nil)))
    (pe_and (pe_cmpR op_eq (pe_callB call_len_seq (by rfl) T.len PySem.boot_len (pa_cons (pv 0) pa_nil)) pe_int (nomark _))
    (pe_one (pe_callB (cr_all rfl) (by rfl) T.all (by decide +kernel) (pa_cons
      (pe_lc (own := [("a", 1)]) (g := gName 1) (tt := tYes) (te := tAndV (tCall spWhole [] E0 (tCons (tVar 1) tNil)) (tOp (rI0 fun i j => .bl (decide (i ≥ j))) (tVar 1) (tC (.int 0)))) rfl nd (pi_tup (pv 0)) (blkOk_by (N := ["thing", "a"]) (sc := defScope sInputs) (by decide +kernel)) (fun _ _ _ _ _ => pg_name (i := 1) nd rfl (Or.inl rfl)) (fun _ _ _ _ _ => pts_nil)
        (fun _ _ _ _ _ => (by refine pe_and ?_ (pe_one ?_); (exact pe_call W.G hr rfl W.m W.k W.b .nil pass0 (pa_cons (pv 1) pa_nil)); (exact pe_cmpR op_ge (pv 1) pe_int (nomark _))))) pa_nil)))))), ?_⟩
  refine ⟨_, rfl, .ref t, .ty "tuple", _, _, true, rfl, .ty "tuple", .base (.tup ht), kit_ty (by decide +kernel), true, rfl, iteT ?_⟩
  refine ⟨_, rfl, t, _, rfl, .inr (SqT.of ht), rfl, true, rfl, iteT ?_⟩
  refine ⟨_, rfl, t, rfl, ⟨_, SqT.of ht⟩, fun D hD => ?_⟩
  have s0 := same_new hD (.lst [])
  refine tup_turns (xs := [V.int a, V.int b]) (fun i H' => Same H H' ∧ H' D = some (.lst ((List.replicate i true).map V.bl))) ⟨s0, upd_same⟩ (fun i H' _ h => SqT.of (h.1 _ _ ht)) ?_ ?_
  · rintro i x H' hx ⟨s1, h1⟩
    obtain ⟨z, rfl, hz⟩ : ∃ z : Int, x = .int z ∧ 0 ≤ z := by
      rcases i with _ | _ | i
      · exact ⟨a, by simpa using hx.symm, ha⟩
      · exact ⟨b, by simpa using hx.symm, hb⟩
      · simp at hx
    have hi : i < 2 := (List.getElem?_eq_some_iff.mp hx).1
    refine ⟨rfl, _, rfl, z, rfl, true, rfl, iteT ?_⟩
    refine ⟨_, rfl, _, _, rfl, rfl, _, h1, (by rw [List.length_map, List.length_replicate]; exact Nat.lt_of_lt_of_le hi (by decide)), fun b' o e => ?_, ?_⟩
    · rw [upd_ne (ne_of_none e hD)]
      exact s1 _ _ e
    · rw [upd_same]
      show some (HO.lst (_ ++ [V.bl (decide (z ≥ 0))])) = _
      rw [decide_eq_true (show z ≥ 0 from hz), rep_snoc]
  · rintro H' ⟨s1, h1⟩
    refine ⟨D, _, rfl, SqL.of h1, ?_⟩
    rw [all_rep]
    exact q _ s1
theorem scWeaving : FnScope ["thing", "rounds", "hand"] ["thing", "rounds"] (defScope sWeaving) := ⟨rfl, rfl, rfl, by decide +kernel, rfl, by decide +kernel, by decide +kernel⟩
theorem ok_weaving {f g : Addr} {fd gd : FuncData} (F : Fun K "is_weaving" "is_weaving" sWeaving f fd) (T : Txt K mg) (U : Txt2 K mg) (W : Def P w K mg base "is_hand" ["thing"] 3 spHand g gd) : FnOk P w K mg base CX0 4 f fd ["thing", "rounds"] (spWeaving K) := by
  refine F.ok scWeaving (fun vs H Q E h => ?_) (fun cdv A outer s H vs Q E hr h => ?_)
  · obtain ⟨p, hs, d, rfl, _⟩ := h
    rfl
  obtain ⟨p, hs, d, rfl, hS, hh, hc, hz, q⟩ := h
  obtain ⟨t2, m2⟩ := U.two
  obtain ⟨hA, mH, hH⟩ := U.hands
  have nd := scWeaving.nd
  have ty : TyX K H (.ref p) (.type "list") := by
    rcases hS with h | ⟨o, its, n, h1, h2, _⟩
    · rcases h with h | ⟨o, h⟩
      · exact .base (.lst h)
      · exact .base (.frz h)
    · exact .kList h1 h2
  refine ⟨_, pss_one (ps_ret (pe_and (pe_callB call_isi (by rfl) T.isi boot_isinstance (pa_cons (pv 0) (pa_cons (pe_bltn (v := .ty "list") (by rfl) T.list boot_list rfl) pa_nil)))
    (pe_and (pe_callB (cr_all rfl) (by rfl) T.all (by decide +kernel) (pa_cons
      (pe_lc (own := [("hand", 2)]) (g := gName 2) (tt := tYes) (te := tCall spHand [] E0 (tCons (tVar 2) tNil)) rfl nd (pi_list (pv 0)) (blkOk_by (N := ["thing", "rounds", "hand"]) (sc := defScope sWeaving) (by decide +kernel)) (fun _ _ _ _ _ => pg_name (i := 2) nd rfl (Or.inl rfl)) (fun _ _ _ _ _ => pts_nil)
        (fun _ _ _ _ _ => (by exact pe_call W.G hr rfl W.m W.k W.b .nil pass0 (pa_cons (pv 2) pa_nil)))) pa_nil))
    (pe_one (pe_callB (cr_all rfl) (by rfl) T.all (by decide +kernel) (pa_cons
      (pe_lc (own := [("hand", 2)]) (g := gName 2) (tt := tYes) (te := tOp (rI0 fun i j => .bl (decide (i ≤ j))) (tBM K "list" (rCntI K) (tVar 0) (tCons (tVar 2) tNil)) (tOp (rI CMul fun i j => .int (i * j)) (tC (.int 2)) (tVar 1))) rfl nd (pi_tup (pe_glob (v := .ref hA) rfl mH rfl)) (blkOk_by (N := ["thing", "rounds", "hand"]) (sc := defScope sWeaving) (by decide +kernel)) (fun _ _ _ _ _ => pg_name (i := 2) nd rfl (Or.inl rfl)) (fun _ _ _ _ _ => pts_nil)
        (fun _ _ _ _ _ => (by refine pe_cmpR op_le ?_ (pe_op op_mul ?_ (pv 1)) (nomark _); (exact pe_bm PySem.F.plainAttrs_list PySem.F.slot_list_count PySem.F.type_list_count mt_lcount (pv 0) (pa_cons (pv 2) pa_nil)); (exact pe_glob (v := .int 2) rfl m2 ⟨_, rfl⟩)))) pa_nil)))))), ?_⟩
  refine ⟨_, rfl, .ref p, .ty "list", _, _, true, rfl, .ty "list", ty, kit_ty (by decide +kernel), true, rfl, iteT ?_⟩
  refine ⟨_, rfl, p, rfl, ⟨_, hS⟩, fun D hD => ?_⟩
  have lenH : (hl hs).length = hs.length := List.length_map _
  refine list_turns (xs := hl hs) (fun i H' => Same H H' ∧ H' D = some (.lst ((List.replicate i true).map V.bl))) ⟨same_new hD _, upd_same⟩ (fun i H' _ h => h.1.seq hS) ?_ ?_
  · rintro i x H' hx ⟨s1, h1⟩
    have hi : i < (hl hs).length := (List.getElem?_eq_some_iff.mp hx).1
    obtain ⟨z, rfl, hz2⟩ : ∃ z : Nat, x = .int (z : Int) ∧ z < 2 := by
      unfold hl at hx
      rw [List.getElem?_map] at hx
      obtain ⟨z, e1, e2⟩ := Option.map_eq_some_iff.mp hx
      exact ⟨z, e2.symm, hh z (List.mem_of_getElem? e1)⟩
    have e1 : decide ((0 : Int) ≤ (z : Int) ∧ (z : Int) ≤ 1) = true := decide_eq_true (by omega)
    refine ⟨rfl, _, rfl, (z : Int), rfl, _, h1, (by rw [List.length_map, List.length_replicate]; exact Nat.lt_of_lt_of_le hi (by rw [lenH]; exact Nat.le_trans hz (by decide))), fun b' o e => ?_, ?_⟩
    · rw [upd_ne (ne_of_none e hD)]
      exact s1 _ _ e
    · rw [upd_same, e1, rep_snoc]
  · rintro H1 ⟨s1, h1⟩
    refine ⟨D, _, rfl, SqL.of h1, ?_⟩
    rw [all_rep]
    refine ⟨true, rfl, iteT ?_⟩
    refine ⟨hA, rfl, ⟨_, hH _⟩, fun D2 hD2 => ?_⟩
    refine tup_turns (xs := [V.int 0, V.int 1]) (fun i H' => Same H1 H' ∧ H' D2 = some (.lst ((List.replicate i true).map V.bl))) ⟨same_new hD2 _, upd_same⟩ (fun i H' _ h => hH _) ?_ ?_
    · rintro i x H' hx ⟨s2, h2⟩
      have hi : i < 2 := (List.getElem?_eq_some_iff.mp hx).1
      obtain ⟨z, rfl, hz2⟩ : ∃ z : Nat, x = .int (z : Int) ∧ z < 2 := by
        rcases i with _ | _ | i
        · exact ⟨0, by simpa using hx.symm, by decide⟩
        · exact ⟨1, by simpa using hx.symm, by decide⟩
        · simp at hx
      have hS2 := s2.seq (s1.seq hS)
      have cz := hc z hz2
      rw [← hl_count, ] at cz
      refine ⟨rfl, _, rfl, ?_, _, rfl, p, hs.map fun h : Nat => (h : Int), (z : Int), rfl, rfl, by rw [← hl_ints]; exact hS2, _, rfl, _, _, rfl, rfl, .inl ⟨by decide, by decide⟩, _, _, rfl, rfl, _, h2, (by rw [List.length_map, List.length_replicate]; exact Nat.lt_of_lt_of_le hi (by decide)), fun b' o e => ?_, ?_⟩
      · exact .inl ⟨rfl, _, hS2⟩
      · rw [upd_ne (ne_of_none e hD2)]
        exact s2 _ _ e
      · rw [upd_same]
        show some (HO.lst (_ ++ [V.bl (decide ((((hs.map fun h : Nat => (h : Int)).count (z : Int) : Nat) : Int) ≤ 2 * (d : Int)))])) = _
        rw [decide_eq_true (by omega), rep_snoc]
    · rintro H2 ⟨s2, h2⟩
      refine ⟨D2, _, rfl, SqL.of h2, ?_⟩
      rw [all_rep]
      exact q _ (s1.trans s2)
end
end TA

set_option Elab.async false
set_option maxRecDepth 100000
set_option maxHeartbeats 4000000
namespace TA
open PySem L2 PyProof.Rows
set_option linter.unusedVariables false
theorem ixN_two {h : Nat} (hh : h < 2) : ixN 2 (h : Int) = some h := by
  rcases h with _ | _ | h
  · rfl
  · rfl
  · omega
theorem at_two {α : Type} (f : Nat → α) {h : Nat} (hh : h < 2) : atI [f 0, f 1] (h : Int) = some (f h) := atI_nat (two_get f hh)
theorem same_upd {H0 H : Hp} {p : Addr} {o : HO} (s : Same H0 H) (f : H0 p = none) : Same H0 (upd H p o) := fun b u e => by
  rw [upd_ne (ne_of_none e f)]
  exact s _ _ e
structure KS (H0 H : Hp) (kn ce lo : Addr) (cs : Nat → Addr) (m : M) : Prop where
  same : Same H0 H
  f1 : H0 kn = none
  f2 : H0 ce = none
  f3 : H0 lo = none
  f4 : ∀ h < 2, H0 (cs h) = none
  n1 : kn ≠ ce
  n2 : kn ≠ lo
  n3 : ∀ h < 2, kn ≠ cs h
  n4 : ce ≠ lo
  n5 : ∀ h < 2, ce ≠ cs h
  n6 : ∀ h < 2, lo ≠ cs h
  n7 : cs 0 ≠ cs 1
  hk : ∃ v : Nat → V, H kn = some (.lst [v 0, v 1]) ∧ ∀ h < 2, Kn H (v h) (m.k h)
  he : H ce = some (.lst [.ref (cs 0), .ref (cs 1)])
  ho : H lo = some (.lst [.int (m.l 0 : Nat), .int (m.l 1 : Nat)])
  hc : ∀ h < 2, ∃ ws, H (cs h) = some (.lst ws) ∧ KnAll H ws (m.c h)
theorem cs_ne {cs : Nat → Addr} (n : cs 0 ≠ cs 1) {i h : Nat} (hi : i < 2) (hh : h < 2) (e : i ≠ h) : cs i ≠ cs h := by
  rcases i with _ | _ | i
  · rcases h with _ | _ | h
    · exact absurd rfl e
    · exact n
    · omega
  · rcases h with _ | _ | h
    · exact n.symm
    · exact absurd rfl e
    · omega
  · omega
theorem KS.put {H0 H : Hp} {kn ce lo : Addr} {cs : Nat → Addr} {m : M} (S : KS H0 H kn ce lo cs m) {h : Nat} (hh : h < 2) (c : ¬ m.l h < (m.c h).length) {ws : List V} {v : V} (hw : H (cs h) = some (.lst ws)) (ha : KnAll H ws (m.c h)) (hv : Kn H v (m.k h)) :
    KS H0 (upd H (cs h) (.lst (ws ++ [v]))) kn ce lo cs (m.step h) := by
  have es : m.step h = { k := m.k, c := upf m.c h (m.c h ++ [m.k h]), l := m.l } := by unfold M.step; rw [if_neg c]
  rw [es]
  have tu : Tups H (upd H (cs h) (.lst (ws ++ [v]))) := Tups.updL hw
  obtain ⟨vs, hk, hkn⟩ := S.hk
  refine { S with same := same_upd S.same (S.f4 h hh), hk := ⟨vs, ?_, fun i hi => (hkn i hi).mono tu⟩, he := ?_, ho := ?_, hc := fun i hi => ?_ }
  · rw [upd_ne (S.n3 h hh)]; exact hk
  · rw [upd_ne (S.n5 h hh)]; exact S.he
  · rw [upd_ne (S.n6 h hh)]; exact S.ho
  · by_cases e : i = h
    · subst e
      refine ⟨_, upd_same, ?_⟩
      show KnAll _ _ (upf m.c i (m.c i ++ [m.k i]) i)
      rw [upf_same]
      exact (ha.mono tu).snoc (hv.mono tu)
    · obtain ⟨ws2, h1, h2⟩ := S.hc i hi
      refine ⟨ws2, by rw [upd_ne (cs_ne S.n7 hi hh e)]; exact h1, ?_⟩
      show KnAll _ _ (upf m.c h (m.c h ++ [m.k h]) i)
      rw [upf_ne e]
      exact h2.mono tu
theorem KS.look {H0 H : Hp} {kn ce lo : Addr} {cs : Nat → Addr} {m : M} (S : KS H0 H kn ce lo cs m) {h : Nat} (hh : h < 2) (c : m.l h < (m.c h).length) {v : Nat → V} {w : V} {q : Addr} (hk : H kn = some (.lst [v 0, v 1])) (hkn : ∀ h < 2, Kn H (v h) (m.k h)) (hw : Kn H w ((m.c (1 - h)).getD (m.l h) .none)) (hq : H q = none) :
    KS H0 (upd (upd (upd H q (.tup [v h, w])) kn (.lst [upf v h (.ref q) 0, upf v h (.ref q) 1])) lo (.lst [.int (upf m.l h (m.l h + 1) 0 : Nat), .int (upf m.l h (m.l h + 1) 1 : Nat)])) kn ce lo cs (m.step h) := by
  have es : m.step h = { k := upf m.k h (.tuple [m.k h, (m.c (1 - h)).getD (m.l h) .none]), c := m.c, l := upf m.l h (m.l h + 1) } := by unfold M.step; rw [if_pos c]
  rw [es]
  have qk : kn ≠ q := ne_of_none hk hq
  have qe : ce ≠ q := ne_of_none S.he hq
  have ql : lo ≠ q := ne_of_none S.ho hq
  have t1 : Tups H (upd H q (.tup [v h, w])) := Tups.same (same_new hq _)
  have t2 : Tups H (upd (upd H q (.tup [v h, w])) kn (.lst [upf v h (.ref q) 0, upf v h (.ref q) 1])) := t1.trans (Tups.updL (by rw [upd_ne qk]; exact hk))
  have t3 : Tups H (upd (upd (upd H q (.tup [v h, w])) kn (.lst [upf v h (.ref q) 0, upf v h (.ref q) 1])) lo (.lst [.int (upf m.l h (m.l h + 1) 0 : Nat), .int (upf m.l h (m.l h + 1) 1 : Nat)])) := t2.trans (Tups.updL (by rw [upd_ne S.n2.symm, upd_ne ql]; exact S.ho))
  have hq3 : (upd (upd (upd H q (.tup [v h, w])) kn (.lst [upf v h (.ref q) 0, upf v h (.ref q) 1])) lo (.lst [.int (upf m.l h (m.l h + 1) 0 : Nat), .int (upf m.l h (m.l h + 1) 1 : Nat)])) q = some (.tup [v h, w]) := by
    rw [upd_ne ql.symm, upd_ne qk.symm, upd_same]
  refine { S with same := same_upd (same_upd (S.same.trans (same_new hq _)) S.f1) S.f3, hk := ⟨upf v h (.ref q), ?_, fun i hi => ?_⟩, he := ?_, ho := upd_same, hc := fun i hi => ?_ }
  · rw [upd_ne S.n2, upd_same]
  · show Kn _ (upf v h (.ref q) i) (upf m.k h (.tuple [m.k h, (m.c (1 - h)).getD (m.l h) .none]) i)
    by_cases e : i = h
    · subst e
      rw [upf_same, upf_same]
      exact .tup hq3 ((hkn i hi).mono t3) (hw.mono t3)
    · rw [upf_ne e, upf_ne e]
      exact (hkn i hi).mono t3
  · rw [upd_ne S.n4, upd_ne S.n1.symm, upd_ne qe]; exact S.he
  · obtain ⟨ws2, h1, h2⟩ := S.hc i hi
    exact ⟨ws2, by rw [upd_ne (S.n6 i hi).symm, upd_ne (S.n3 i hi).symm, upd_ne (ne_of_none h1 hq)]; exact h1, h2.mono t3⟩
/-- the answer of known (and of _law_behind) -/
def spTold (vs0 : List V → Hp → Addr → List Nat → Nat → Int → Int → Prop) : Sp := fun vs H Q _ => ∃ (p : Addr) (hs : List Nat) (d : Nat) (a b : Int), vs0 vs H p hs d a b ∧ (∀ h ∈ hs, h < 2) ∧ (∀ h < 2, hs.count h ≤ 2 * d) ∧ hs.length ≤ 40 ∧ d ≤ 5 ∧ 0 ≤ a ∧ 0 ≤ b ∧
  ∀ (o : Addr) (v : Nat → V) (H' : Hp), Same H H' → H o = none → H' o = some (.lst [v 0, v 1]) → (∀ h < 2, Kn H' (v h) (((M0 a b).run hs).res d h)) → Q (.ref o) H'
def spKnown (K : PySem.W.Frag) : Sp := spTold fun vs H p hs d a b => ∃ t, vs = [.ref t, .ref p, .int (d : Int)] ∧ H t = some (.tup [.int a, .int b]) ∧ SqL K H p (hl hs)
theorem nat_two {x : V} {i : Nat} (hx : ([V.int 0, V.int 1] : List V)[i]? = some x) : x = .int ((i : Nat) : Int) ∧ i < 2 := by
  rcases i with _ | _ | i
  · exact ⟨by simpa using hx.symm, by decide⟩
  · exact ⟨by simpa using hx.symm, by decide⟩
  · simp at hx
theorem hl_at {hs : List Nat} {i : Nat} {x : V} (hx : (hl hs)[i]? = some x) : ∃ z : Nat, x = .int (z : Int) ∧ hs[i]? = some z := by
  unfold hl at hx
  rw [List.getElem?_map] at hx
  obtain ⟨z, e1, e2⟩ := Option.map_eq_some_iff.mp hx
  exact ⟨z, e2.symm, e1⟩
end TA

set_option Elab.async false
set_option maxRecDepth 100000
set_option maxHeartbeats 4000000
namespace TA
open PySem L2 PyProof.Rows
set_option linter.unusedVariables false
theorem upf_map {α β : Type} (f : α → β) (g : Nat → α) (h : Nat) (x : α) (i : Nat) : upf (fun j => f (g j)) h (f x) i = f (upf g h x i) := by
  unfold upf
  by_cases e : i = h
  · rw [if_pos e, if_pos e]
  · rw [if_neg e, if_neg e]
theorem ints_set (l : Nat → Nat) {h : Nat} (hh : h < 2) (n : Nat) : ([.int (l 0 : Nat), .int (l 1 : Nat)] : List V).set h (.int (n : Int)) = [.int (upf l h n 0 : Nat), .int (upf l h n 1 : Nat)] := by
  have := two_set (fun j => V.int (l j : Nat)) hh (V.int (n : Int))
  rw [upf_map (fun n : Nat => V.int (n : Int)) l h n 0, upf_map (fun n : Nat => V.int (n : Int)) l h n 1] at this
  exact this
def outs (m : M) (d : Nat) (v : Nat → V) (h : Nat) : V := if m.l h = d then v h else .non
theorem int_eq {a b : Nat} : (V.int (a : Int) = V.int (b : Int)) ↔ a = b := ⟨fun e => by injection e with e; omega, fun e => by rw [e]⟩
section
variable {P : Program} {w : World} {K : PySem.W.Frag} {mg : Str → Option Value} {base : Heap}
abbrev nKnown : List Str := ["inputs", "weaving", "rounds", "knows", "cells", "looks", "hand"]
theorem scKnown : FnScope nKnown ["inputs", "weaving", "rounds"] (defScope sKnown) := ⟨rfl, rfl, rfl, by decide +kernel, rfl, by decide +kernel, by decide +kernel⟩
theorem ok_known {f g1 g2 g3 g4 : Addr} {fd d1 d2 d3 d4 : FuncData} (F : Fun K "known" "known" sKnown f fd) (T : Txt K mg) (U : Txt2 K mg) (W1 : Def P w K mg base "is_whole_within" ["thing", "least", "most"] 2 spWithin g1 d1)
    (W2 : Def P w K mg base "is_inputs" ["thing"] 2 spInputs g2 d2) (W3 : Def P w K mg base "is_weaving" ["thing", "rounds"] 4 (spWeaving K) g3 d3) (W4 : Def P w K mg base "put_in" ["cells", "at"] 1 (spPut K) g4 d4) :
    FnOk P w K mg base CX0 5 f fd ["inputs", "weaving", "rounds"] (spKnown K) := by
  refine F.ok scKnown (fun vs H Q E h => ?_) (fun cdv A outer s H vs Q E hr h => ?_)
  · obtain ⟨p, hs, d, a, b, ⟨t, rfl, _⟩, _⟩ := h
    rfl
  obtain ⟨p, hs, d, a, b, ⟨t, rfl, ht, hS⟩, hh, hc, hz, hd, ha, hb, q⟩ := h
  obtain ⟨t5, m5⟩ := U.five
  obtain ⟨hA, mH, hH⟩ := U.hands
  have nd := scKnown.nd
  refine ⟨_, pss_cons (ps_if (pt_not (pt_val (pe_call W1.G (hr.mono (by decide)) rfl W1.m W1.k W1.b .nil pass0 (pa_cons (pv 2) (pa_cons pe_int (pa_cons (pe_glob (v := .int 5) rfl m5 ⟨_, rfl⟩) pa_nil)))))) pss_never pss_nil)
    (pss_cons (ps_if (pt_not (pt_val (pe_call W2.G (hr.mono (by decide)) rfl W2.m W2.k W2.b .nil pass0 (pa_cons (pv 0) pa_nil)))) pss_never pss_nil)
    (pss_cons (ps_if (pt_not (pt_val (pe_call W3.G (hr.mono (by decide)) rfl W3.m W3.k W3.b .nil pass0 (pa_cons (pv 1) (pa_cons (pv 2) pa_nil))))) pss_never pss_nil)
    (pss_cons (ps_set (i := 3) nd rfl (Or.inr rfl) (pe_callTy call_list_of (by rfl) T.list boot_list (pa_cons (pv 0) pa_nil)))
    (pss_cons (ps_set (i := 4) nd rfl (Or.inl rfl) (pe_lst (pa_cons (pe_lst pa_nil) (pa_cons (pe_lst pa_nil) pa_nil))))
    (pss_cons (ps_set (i := 5) nd rfl (Or.inr rfl) (pe_lst (pa_cons pe_int (pa_cons pe_int pa_nil))))
    (pss_cons (ps_for PassesOwn.never rfl (pi_list (pv 1)) (pg_name (i := 6) nd rfl (Or.inl rfl))
      (pss_one (ps_if (pt_cmpR op_gt (pe_callB call_len_seq (by rfl) T.len PySem.boot_len (pa_cons (pe_ix ix_list (pv 4) (pv 6) (fun _ _ => rfl)) pa_nil)) (pe_ix ix_list (pv 5) (pv 6) (fun _ _ => rfl)) (nomark _))
        (pss_cons (ps_asg (pe_tup (pa_cons (pe_ix ix_list (pv 3) (pv 6) (fun _ _ => rfl)) (pa_cons (pe_call W4.G (hr.mono (by decide)) rfl W4.m W4.k W4.b .nil pass0 (pa_cons (pe_ix ix_list (pv 4) (pe_op op_sub pe_int (pv 6)) (fun _ _ => rfl)) (pa_cons (pe_ix ix_list (pv 5) (pv 6) (fun _ _ => rfl)) pa_nil))) pa_nil))) (pg_sub (pv 3) (pv 6) set_list))
          (pss_one (ps_augS (pv 5) (pv 6) get_list pe_int ip_add set_list)))
        (pss_one (ps_expr (pe_bm PySem.F.plainAttrs_list PySem.F.slot_list_append PySem.F.type_list_append mt_append (pe_ix ix_list (pv 4) (pv 6) (fun _ _ => rfl)) (pa_cons (pe_ix ix_list (pv 3) (pv 6) (fun _ _ => rfl)) pa_nil)))))))
    (pss_one (ps_ret (pe_lc (own := [("hand", 6)]) (g := gName 6) (tt := tYes) (te := tIf (tTest (tOp rEq (tOp (rIxL K) (tVar 5) (tVar 6)) (tVar 2))) (tOp (rIxL K) (tVar 3) (tVar 6)) (tC .non)) rfl nd (pi_tup (pe_glob (v := .ref hA) rfl mH rfl)) (blkOk_by (N := nKnown) (sc := defScope sKnown) (by decide +kernel)) (fun _ _ _ _ _ => pg_name (i := 6) nd rfl (Or.inl rfl)) (fun _ _ _ _ _ => pts_nil)
      (fun _ _ _ _ _ => (by refine pe_ifExp ?_ ?_ pe_non; (refine pt_cmpR op_eq ?_ (pv 2) (nomark _); exact pe_ix ix_list (pv 5) (pv 6) (fun _ _ => rfl)); (exact pe_ix ix_list (pv 3) (pv 6) (fun _ _ => rfl))))))))))))), ?_⟩
  have e5 : decide ((0 : Int) ≤ (d : Int) ∧ (d : Int) ≤ 5) = true := decide_eq_true (by omega)
  refine ⟨_, rfl, (d : Int), 0, 5, rfl, true, congrArg V.bl e5, iteF ?_⟩
  refine ⟨_, rfl, t, a, b, rfl, ht, ha, hb, fun H1 s1 => ⟨true, rfl, iteF ?_⟩⟩
  refine ⟨_, rfl, _, rfl, p, hs, d, rfl, s1.seq hS, hh, hc, by omega, fun H2 s2 => ⟨true, rfl, iteF ?_⟩⟩
  have s12 := s1.trans s2
  refine ⟨_, rfl, t, _, rfl, .inr (SqT.of (s12 _ _ ht)), fun kn hkn => ?_⟩
  refine ⟨Nat.zero_le _, fun c0 hc0 => ⟨Nat.zero_le _, fun c1 hc1 => ⟨(by show 2 ≤ sizeLine; decide), fun ce hce => ?_⟩⟩⟩
  refine ⟨(by show 2 ≤ sizeLine; decide), fun lo hlo => ?_⟩
  have sa := same_new hkn (.lst [V.int a, V.int b])
  have sb := sa.trans (same_new hc0 (.lst []))
  have sc := sb.trans (same_new hc1 (.lst []))
  have sd := sc.trans (same_new hce (.lst [V.ref c0, V.ref c1]))
  have se := sd.trans (same_new hlo (.lst [V.int 0, V.int 0]))
  have K0 : KS H2 (upd (upd (upd (upd (upd H2 kn (.lst [V.int a, V.int b])) c0 (.lst [])) c1 (.lst [])) ce (.lst [V.ref c0, V.ref c1])) lo (.lst [V.int 0, V.int 0])) kn ce lo (fun i => if i = 0 then c0 else c1) (M0 a b) := by
    have q1 := upd_same (H := H2) (a := kn) (o := .lst [V.int a, V.int b])
    have q2 := upd_same (H := upd H2 kn (.lst [V.int a, V.int b])) (a := c0) (o := .lst [])
    have q3 := upd_same (H := upd (upd H2 kn (.lst [V.int a, V.int b])) c0 (.lst [])) (a := c1) (o := .lst [])
    have q4 := upd_same (H := upd (upd (upd H2 kn (.lst [V.int a, V.int b])) c0 (.lst [])) c1 (.lst [])) (a := ce) (o := .lst [V.ref c0, V.ref c1])
    have b2 := same_new hc0 (.lst [])
    have b3 := same_new hc1 (.lst [])
    have b4 := same_new hce (.lst [V.ref c0, V.ref c1])
    have b5 := same_new hlo (.lst [V.int 0, V.int 0])
    have two : ∀ {R : Addr → Prop}, R c0 → R c1 → ∀ h < 2, R ((fun i : Nat => if i = 0 then c0 else c1) h) := fun r0 r1 h hh => by
      rcases h with _ | _ | h
      · exact r0
      · exact r1
      · omega
    refine { same := se, f1 := hkn, f2 := sc.free hce, f3 := sd.free hlo, f4 := two (R := fun c => H2 c = none) (sa.free hc0) (sb.free hc1), n1 := ne_of_none (b3 _ _ (b2 _ _ q1)) hce, n2 := ne_of_none (b4 _ _ (b3 _ _ (b2 _ _ q1))) hlo, n3 := two (R := fun c => kn ≠ c) (ne_of_none q1 hc0) (ne_of_none (b2 _ _ q1) hc1), n4 := ne_of_none q4 hlo, n5 := two (R := fun c => ce ≠ c) (ne_of_none (b3 _ _ q2) hce).symm (ne_of_none q3 hce).symm, n6 := two (R := fun c => lo ≠ c) (ne_of_none (b4 _ _ (b3 _ _ q2)) hlo).symm (ne_of_none (b4 _ _ q3) hlo).symm, n7 := ne_of_none q2 hc1, hk := ⟨fun i => if i = 0 then .int a else .int b, b5 _ _ (b4 _ _ (b3 _ _ (b2 _ _ q1))), fun h hh => ?_⟩, he := b5 _ _ q4, ho := upd_same, hc := ?_ }
    · rcases h with _ | _ | h
      · exact .int a
      · exact .int b
      · omega
    · intro h hh
      rcases h with _ | _ | h
      · exact ⟨[], b5 _ _ (b4 _ _ (b3 _ _ q2)), .nil⟩
      · exact ⟨[], b5 _ _ (b4 _ _ q3), .nil⟩
      · omega
  generalize (fun i : Nat => if i = 0 then c0 else c1) = cs at K0
  have lenH : (hl hs).length = hs.length := List.length_map _
  refine ⟨_, rfl, p, rfl, ⟨_, (s12.trans se).seq hS⟩, for_list (K := K) (a := p) (xs := hl hs) (fun i σ Hc => ∃ g, σ = [some (.ref t), some (.ref p), some (.int (d : Int)), some (.ref kn), some (.ref ce), some (.ref lo), g] ∧ KS H2 Hc kn ce lo cs ((M0 a b).run (hs.take i))) ⟨none, rfl, K0⟩ ?_ ?_ ?_⟩
  · rintro i σ Hc _ ⟨g, _, S⟩
    exact (s12.trans S.same).seq hS
  · rintro i x σ Hc hx ⟨g, rfl, S⟩
    obtain ⟨z, rfl, hz1⟩ := hl_at hx
    have hz2 : z < 2 := hh z (List.mem_of_getElem? hz1)
    have er : (M0 a b).run (hs.take (i + 1)) = ((M0 a b).run (hs.take i)).step z := by
      rw [List.take_add_one, hz1]
      exact M.run_snoc _ _ _
    rw [er]
    have hdn : ((M0 a b).run (hs.take i)).done z ≤ 40 := by
      rw [M.done_run]
      have h1 := List.count_le_length (a := z) (l := hs.take i)
      rw [List.length_take] at h1
      show 0 + 0 + _ ≤ 40
      omega
    generalize (M0 a b).run (hs.take i) = m at S hdn ⊢
    obtain ⟨v, hk, hkn'⟩ := S.hk
    obtain ⟨ws, hw, hwa⟩ := S.hc z hz2
    have hwl := hwa.len
    have he2 := at_two (fun i => V.ref (cs i)) hz2
    have ho2 := at_two (fun i => V.int ((m.l i : Nat) : Int)) hz2
    refine ⟨_, rfl, _, rfl, ce, _, _, _, rfl, rfl, SqL.of S.he, he2, cs z, ws, rfl, .inl (SqL.of hw), _, rfl, _, rfl, lo, _, _, _, rfl, rfl, SqL.of S.ho, ho2, _, _, rfl, rfl, _, rfl, ?_⟩
    refine ite2 (fun c1 => ?_) (fun c1 => ?_)
    · have c2 : ((m.l z : Nat) : Int) < ((ws.length : Nat) : Int) := of_decide_eq_true c1
      have c3 : m.l z < (m.c z).length := by omega
      obtain ⟨ws2, hw2, hwa2⟩ := S.hc (1 - z) (by omega)
      have he3 : atI [V.ref (cs 0), V.ref (cs 1)] ((1 : Int) - (z : Int)) = some (.ref (cs (1 - z))) := by
        rw [show (1 : Int) - (z : Int) = ((1 - z : Nat) : Int) by omega]
        exact at_two (fun i => V.ref (cs i)) (by omega)
      refine ⟨_, rfl, _, rfl, kn, _, _, _, rfl, rfl, SqL.of hk, at_two v hz2, _, rfl, _, rfl, _, _, rfl, rfl, ce, _, _, _, rfl, rfl, SqL.of S.he, he3, _, rfl, _, rfl, lo, _, _, _, rfl, rfl, SqL.of S.ho, ho2, cs (1 - z), ws2, m.l z, rfl, SqL.of hw2, (by show 2 ≤ sizeLine; decide), fun q0 hq0 => ?_⟩
      have n1 := ne_of_none hk hq0
      have n2 := ne_of_none S.ho hq0
      refine ⟨_, rfl, _, rfl, kn, [v 0, v 1], _, z, rfl, rfl, by rw [upd_ne n1]; exact hk, ixN_two hz2, ?_⟩
      have ho3 : (upd (upd Hc q0 (.tup [v z, ws2.getD (m.l z) .non])) kn (.lst ([v 0, v 1].set z (.ref q0)))) lo = some (.lst [.int (m.l 0 : Nat), .int (m.l 1 : Nat)]) := by
        rw [upd_ne S.n2.symm, upd_ne n2]
        exact S.ho
      refine ⟨_, rfl, _, rfl, lo, _, z, _, rfl, rfl, SqL.of ho3, two_get (fun i => V.int ((m.l i : Nat) : Int)) hz2, _, _, rfl, rfl, lo, [.int (m.l 0 : Nat), .int (m.l 1 : Nat)], _, z, rfl, rfl, ho3, ixN_two hz2, ?_⟩
      refine ⟨_, rfl, ?_⟩
      have r := S.look hz2 c3 hk hkn' (hwa2.getD (m.l z)) hq0
      rw [← two_set v hz2, ← ints_set m.l hz2] at r
      exact r
    · have c2 : ¬ ((m.l z : Nat) : Int) < ((ws.length : Nat) : Int) := of_decide_eq_false (Bool.eq_false_iff.mpr c1)
      have c3 : ¬ m.l z < (m.c z).length := by omega
      have hsz : ws.length < sizeLine := by
        unfold M.done at hdn
        exact Nat.lt_of_le_of_lt (show ws.length ≤ 40 by omega) (by decide)
      refine ⟨_, rfl, _, rfl, ce, _, _, _, rfl, rfl, SqL.of S.he, he2, .inl ⟨rfl, _, SqL.of hw⟩, _, rfl, _, rfl, kn, _, _, _, rfl, rfl, SqL.of hk, at_two v hz2, cs z, ws, _, rfl, rfl, hw, hsz, ?_⟩
      exact ⟨_, rfl, S.put hz2 c3 hw hwa (hkn' z hz2)⟩
  · rintro σ Hc ⟨g, rfl, S⟩
    rw [lenH, List.take_length] at S
    have wf := M.wf_run (M.wf0 a b) hh
    have dn : ∀ h < 2, ((M0 a b).run hs).done h ≤ 2 * d := fun h h2 => by
      rw [M.done_run]
      have := hc h h2
      show 0 + 0 + _ ≤ _
      omega
    generalize (M0 a b).run hs = m at S wf dn q ⊢
    obtain ⟨v, hk, hkn'⟩ := S.hk
    refine ⟨hA, rfl, ⟨_, hH _⟩, fun D hD => ?_⟩
    refine tup_turns (xs := [V.int 0, V.int 1]) (fun i H' => Same Hc H' ∧ H' D = some (.lst ([outs m d v 0, outs m d v 1].take i))) ⟨same_new hD _, upd_same⟩ (fun i H' _ h => hH _) ?_ ?_
    · rintro i x H' hx ⟨s3, h3⟩
      obtain ⟨rfl, hi⟩ := nat_two hx
      have fin : ∀ H'', Same H' H'' → ∃ acc, H'' D = some (.lst acc) ∧ acc.length < sizeLine ∧ (Same Hc (upd H'' D (.lst (acc ++ [outs m d v i]))) ∧ (upd H'' D (.lst (acc ++ [outs m d v i]))) D = some (.lst ([outs m d v 0, outs m d v 1].take (i + 1)))) := fun H'' s4 => by
        refine ⟨_, s4 _ _ h3, Nat.lt_of_le_of_lt (List.length_take_le i _) (Nat.lt_of_lt_of_le hi (by decide)), same_upd (s3.trans s4) hD, ?_⟩
        rw [upd_same, List.take_add_one, two_get (outs m d v) hi]
        all_goals rfl
      refine ⟨rfl, _, rfl, _, rfl, lo, _, _, _, rfl, rfl, SqL.of (s3 _ _ S.ho), at_two (fun i => V.int ((m.l i : Nat) : Int)) hi, _, rfl, rfl, _, rfl, ?_⟩
      refine ite2 (fun c1 => ?_) (fun c1 => ?_)
      · have c2 : m.l i = d := int_eq.mp (of_decide_eq_true c1)
        have r := fin H' (Same.refl _)
        rw [show outs m d v i = v i by unfold outs; rw [if_pos c2]] at r
        exact ⟨_, rfl, _, rfl, kn, _, _, _, rfl, rfl, SqL.of (s3 _ _ hk), at_two v hi, r⟩
      · have c2 : ¬ m.l i = d := fun e => c1 (decide_eq_true (int_eq.mpr e))
        have r := fin H' (Same.refl _)
        rw [show outs m d v i = .non by unfold outs; rw [if_neg c2]] at r
        exact r
    · rintro H' ⟨s3, h3⟩
      have sH := s12.trans (S.same.trans s3)
      refine q D (outs m d v) H' sH (s12.free (S.same.free hD)) h3 fun h h2 => ?_
      have st := M.stopped wf h2 (dn h h2)
      unfold outs M.res
      by_cases c : m.l h = d
      · rw [if_pos c, if_pos (st.mp c)]
        exact (hkn' h h2).mono (Tups.same s3)
      · rw [if_neg c, if_neg (fun e => c (st.mpr e))]
        exact .non
end
end TA

set_option Elab.async false
set_option maxRecDepth 100000
set_option maxHeartbeats 4000000
namespace TA
open PySem L2 PyProof.Rows
set_option linter.unusedVariables false
/-- all but what stands at a is as it was -/
def But (a : Addr) (H H' : Hp) : Prop := ∀ b o, b ≠ a → H b = some o → H' b = some o
def WellAt (H : Hp) (a : Addr) (n : Int) : Prop := ∃ x y z : Int, H a = some (.lst [.int x, .int y, .int z]) ∧ 0 ≤ x ∧ 0 ≤ y ∧ y < 2147483629 ∧ 0 ≤ z ∧ z ≤ n
theorem But.trans {a : Addr} {H H1 H2 : Hp} (h : But a H H1) (g : But a H1 H2) : But a H H2 := fun b o e q => g b o e (h b o e q)
theorem But.same {a : Addr} {H H' : Hp} (s : Same H H') : But a H H' := fun b o _ q => s b o q
theorem WellAt.same {H H' : Hp} {a : Addr} {n : Int} (s : Same H H') (w : WellAt H a n) : WellAt H' a n := by
  obtain ⟨x, y, z, h, r⟩ := w
  exact ⟨x, y, z, s _ _ h, r⟩
theorem WellAt.up {H : Hp} {a : Addr} {n m : Int} (w : WellAt H a n) (h : n ≤ m) : WellAt H a m := by
  obtain ⟨x, y, z, e, r1, r2, r3, r4, r5⟩ := w
  exact ⟨x, y, z, e, r1, r2, r3, r4, by omega⟩
theorem But.free {a : Addr} {H H' : Hp} {m : Int} (b : But a H H') (w : WellAt H' a m) {q : Addr} (h : H' q = none) : H q = none := by
  obtain ⟨x, y, z, e, _⟩ := w
  have nq : q ≠ a := fun c => by rw [c, e] at h; cases h
  cases g : H q with
  | none => rfl
  | some o => rw [b q o nq g] at h; cases h
def spDraw2 : Sp := fun vs H Q _ => ∃ (a : Addr) (n m : Int), vs = [.ref a, .int m] ∧ WellAt H a n ∧ n < 999999 ∧ 0 < m ∧ m < 2 ^ 100 ∧ ∀ (r : Int) (H' : Hp), 0 ≤ r → r < m → But a H H' → WellAt H' a (n + 1) → Q (.int r) H'
def spOne2 : Sp := fun vs H Q _ => ∃ (a l : Addr) (n : Int) (xs : List V), vs = [.ref a, .ref l] ∧ WellAt H a n ∧ n < 999999 ∧ H l = some (.lst xs) ∧ a ≠ l ∧ 0 < xs.length ∧ xs.length < 1000 ∧ ∀ (i : Nat) (v : V) (H' : Hp), xs[i]? = some v → But a H H' → WellAt H' a (n + 1) → Q v H'
theorem weak {P : Program} {w : World} {K : PySem.W.Frag} {mg : Str → Option Value} {base : Heap} {k : Nat} {f : Addr} {fd : FuncData} {ps : List Str} {sp sp' : Sp} (F : FnOk P w K mg base CX0 k f fd ps sp) (i : ∀ vs H Q E, sp' vs H Q E → sp vs H Q E) : FnOk P w K mg base CX0 k f fd ps sp' :=
  ⟨fun vs H Q E h => F.len vs H Q E (i _ _ _ _ h), fun A outer s H args us vs Q E a b c d h => F.run A outer s H args us vs Q E a b c d (i _ _ _ _ h)⟩
theorem draw_weak (vs : List V) (H : Hp) (Q : VK) (E : XK) (h : spDraw2 vs H Q E) : spDraw vs H Q E := by
  obtain ⟨a, n, m, rfl, ⟨x, y, z, e, r1, r2, r3, r4, r5⟩, hn, hm, hm2, q⟩ := h
  exact ⟨a, x, y, z, m, rfl, e, r1, r2, r3, r4, by omega, hm, hm2, fun r x' z' h0 h1 hx hz hz2 => q r _ h0 h1 (fun b o nb hb => by rw [upd_ne nb]; exact hb) ⟨x', y, z', upd_same, hx, r2, r3, by omega, by omega⟩⟩
theorem one_weak {K : PySem.W.Frag} (vs : List V) (H : Hp) (Q : VK) (E : XK) (h : spOne2 vs H Q E) : spOne K vs H Q E := by
  obtain ⟨a, l, n, xs, rfl, ⟨x, y, z, e, r1, r2, r3, r4, r5⟩, hn, hl, al, l0, l1, q⟩ := h
  exact ⟨a, l, x, y, z, xs, rfl, e, r1, r2, r3, r4, by omega, hl, al, l0, l1, fun i v x' z' hv hx hz hz2 => q i v _ hv (fun b o nb hb => by rw [upd_ne nb]; exact hb) ⟨x', y, z', upd_same, hx, r2, r3, by omega, by omega⟩⟩
/-- a weaving that is drawn -/
def spLW : Sp := fun vs H Q _ => ∃ (a : Addr) (n : Int) (d : Nat) (st : Bool), vs = [.ref a, .int (d : Int), .bl st] ∧ WellAt H a n ∧ n ≤ 900000 ∧ d ≤ 5 ∧
  ∀ (o : Addr) (hs : List Nat) (H' : Hp), But a H H' → WellAt H' a (n + 100) → H o = none → H' o = some (.lst (hl hs)) → (∀ h ∈ hs, h < 2) → (∀ h < 2, hs.count h ≤ 2 * d) → (st = false → ∀ h < 2, hs.count h = 2 * d) → Q (.ref o) H'
def avail (l : Nat → Nat) (i : Nat) : List Nat := (([0, 1] : List Nat).take i).filter fun h => decide (0 < l h)
theorem avail_mem {l : Nat → Nat} {i h : Nat} (m : h ∈ avail l i) : h < 2 ∧ 0 < l h := by
  unfold avail at m
  obtain ⟨m1, m2⟩ := List.mem_filter.mp m
  have m3 := List.mem_of_mem_take m1
  have : h = 0 ∨ h = 1 := by simpa using m3
  exact ⟨by omega, of_decide_eq_true m2⟩
theorem avail_step {l : Nat → Nat} {i : Nat} (hi : i < 2) : avail l (i + 1) = if 0 < l i then avail l i ++ [i] else avail l i := by
  unfold avail
  have e : ([0, 1] : List Nat)[i]? = some i := two_get (fun i => i) hi
  rw [List.take_add_one, e, List.filter_append]
  by_cases c : 0 < l i
  · rw [if_pos c]; simp [c]
  · rw [if_neg c]; simp [c]
theorem avail_len (l : Nat → Nat) (i : Nat) : (avail l i).length ≤ 2 := by
  unfold avail
  refine Nat.le_trans (List.length_filter_le _ _) ?_
  rw [List.length_take]
  exact Nat.min_le_right _ _
theorem avail_pos {l : Nat → Nat} (h : 0 < l 0 + l 1) : 0 < (avail l 2).length := by
  rw [avail_step (by decide), avail_step (by decide)]
  by_cases c : 0 < l 1
  · rw [if_pos c, List.length_append]; show 0 < _ + 1; omega
  · rw [if_neg c, if_pos (show 0 < l 0 by omega), List.length_append]; show 0 < _ + 1; omega
theorem hl_snoc (hs : List Nat) (z : Nat) : hl hs ++ [V.int (z : Int)] = hl (hs ++ [z]) := by
  unfold hl
  rw [List.map_append]
  rfl
theorem join {b : Bool} {X : Prop} {R : Hp → Prop} {H : Hp} (Iv : Hp → Prop) (h0 : Iv H) (k : ∀ Hc, Iv Hc → R Hc) (h1 : b = true → (∀ Hc, Iv Hc → R Hc) → X) : if b = true then X else R H := by
  cases b with
  | false => exact iteF (k H h0)
  | true => exact iteT (h1 rfl k)
def LWI (H : Hp) (a mn lf fo : Addr) (n : Int) (d : Nat) (st : Bool) (m : Nat) (σ : L2.St) (Hc : Hp) : Prop := ∃ (l : Nat → Nat) (hs : List Nat) (g1 g2 : Option V), m = l 0 + l 1 ∧
  σ = [some (.ref a), some (.int (d : Int)), some (.bl st), some (.ref mn), some (.ref lf), some (.ref fo), g1, g2] ∧ But a H Hc ∧ WellAt Hc a (n + 2 + 3 * (20 - ((l 0 + l 1 : Nat) : Int))) ∧
  Hc lf = some (.lst [.int (l 0 : Nat), .int (l 1 : Nat)]) ∧ Hc fo = some (.lst (hl hs)) ∧ (∀ h ∈ hs, h < 2) ∧ (∀ h < 2, hs.count h + l h ≤ 2 * d) ∧ (st = false → ∀ h < 2, hs.count h + l h = 2 * d)
theorem len_counts : ∀ hs : List Nat, (∀ h ∈ hs, h < 2) → hs.length = hs.count 0 + hs.count 1
  | [], _ => rfl
  | h :: r, q => by
    have ih := len_counts r (fun x hx => q x (List.mem_cons_of_mem _ hx))
    have h2 := q h List.mem_cons_self
    rw [List.length_cons, List.count_cons, List.count_cons, ih]
    rcases h with _ | _ | h
    · simp; omega
    · simp; omega
    · omega
theorem But.upd {a p : Addr} {H H' : Hp} {o : HO} (b : But a H H') (f : H p = none) : But a H (L2.upd H' p o) := fun c u nc e => by
  rw [upd_ne (ne_of_none e f)]
  exact b _ _ nc e
theorem WellAt.upd {a p : Addr} {H : Hp} {o : HO} {n : Int} (w : WellAt H a n) (f : a ≠ p) : WellAt (L2.upd H p o) a n := by
  obtain ⟨x, y, z, e, r⟩ := w
  exact ⟨x, y, z, by rw [upd_ne f]; exact e, r⟩
end TA

set_option Elab.async false
set_option maxRecDepth 100000
set_option maxHeartbeats 4000000
namespace TA
open PySem L2 PyProof.Rows
set_option linter.unusedVariables false
/-! places, in plain mathematics -/
abbrev Stands := Int × Option Int × Option Int
def agr : Option Int → Option Int → Bool
  | some a, some b => decide (a = b)
  | _, _ => true
def fst2 : Option Int → Option Int → Option Int
  | none, b => b
  | some a, _ => some a
def metD (u v : Stands) : Option Stands :=
  if (v.1 - u.1).natAbs = 1 ∧ agr u.2.1 v.2.1 = true ∧ agr u.2.2 v.2.2 = true then some (3 * u.1 + 2 * (v.1 - u.1), fst2 u.2.1 v.2.1, fst2 u.2.2 v.2.2) else none
def isN : PyData → Bool
  | .none => true
  | _ => false
def stand1 (u : Option Stands) (y : PyData) (v : Option Stands) : Option Stands := u.bind fun u => if isN y = true then some (3 * u.1, u.2.1, u.2.2) else v.bind (metD u)
def stand : Nat → PyData → Nat → Option Stands
  | 0, .int i, h => if 0 ≤ i then some (if h = 0 then (0, some i, none) else (1, none, some i)) else none
  | r + 1, .tuple [x, y], h => stand1 (stand r x h) y (stand r y (1 - h))
  | _, _, _ => none
/-- how deep, at most n -/
def rb : Nat → PyData → Nat
  | n + 1, .tuple [x, _] => rb n x + 1
  | _, _ => 0
def placeD (d : PyData) (h : Nat) : Option Int := (stand (rb 5 d) d h).map (·.1)
theorem stand0 {d : PyData} {h : Nat} {u : Stands} (e : stand 0 d h = some u) : ∃ i : Int, d = .int i ∧ 0 ≤ i ∧ u = (if h = 0 then (0, some i, none) else (1, none, some i)) := by
  cases d with
  | int i =>
    simp only [stand] at e
    split at e
    · cases e; exact ⟨i, rfl, by assumption, rfl⟩
    · cases e
  | _ => simp [stand] at e
theorem standS {r : Nat} {d : PyData} {h : Nat} {u : Stands} (e : stand (r + 1) d h = some u) : ∃ x y u0, d = .tuple [x, y] ∧ stand r x h = some u0 ∧ ((isN y = true ∧ u = (3 * u0.1, u0.2.1, u0.2.2)) ∨ (isN y = false ∧ ∃ v, stand r y (1 - h) = some v ∧ metD u0 v = some u)) := by
  match d, e with
  | .tuple [x, y], e =>
    simp only [stand, stand1] at e
    cases e1 : stand r x h with
    | none => rw [e1] at e; cases e
    | some u0 =>
      rw [e1] at e
      refine ⟨x, y, u0, rfl, e1, ?_⟩
      by_cases c : isN y = true
      · rw [Option.bind_some, if_pos c] at e
        exact .inl ⟨c, by cases e; rfl⟩
      · rw [Option.bind_some, if_neg c] at e
        cases e2 : stand r y (1 - h) with
        | none => rw [e2] at e; cases e
        | some v =>
          rw [e2] at e
          exact .inr ⟨Bool.eq_false_iff.mpr c, v, rfl, e⟩
  | .none, e => simp [stand] at e
  | .bool _, e => simp [stand] at e
  | .int _, e => simp [stand] at e
  | .str _, e => simp [stand] at e
  | .list _, e => simp [stand] at e
  | .dict _, e => simp [stand] at e
  | .tuple [], e => simp [stand] at e
  | .tuple [_], e => simp [stand] at e
  | .tuple (_ :: _ :: _ :: _), e => simp [stand] at e
theorem stand_rb : ∀ {r : Nat} {d : PyData} {h : Nat} {u : Stands}, stand r d h = some u → ∀ n, rb n d = min n r
  | 0, d, h, u, e, n => by
    obtain ⟨i, rfl, _⟩ := stand0 e
    cases n <;> simp [rb]
  | r + 1, d, h, u, e, n => by
    obtain ⟨x, y, u0, rfl, e0, _⟩ := standS e
    cases n with
    | zero => simp [rb]
    | succ n => simp only [rb]; rw [stand_rb e0 n]; omega
theorem stand_isN {r : Nat} {d : PyData} {h : Nat} {u : Stands} (e : stand r d h = some u) : isN d = false := by
  cases r with
  | zero => obtain ⟨i, rfl, _⟩ := stand0 e; rfl
  | succ r => obtain ⟨x, y, u0, rfl, _⟩ := standS e; rfl
theorem stand_uniq {r r' : Nat} {d : PyData} {h h' : Nat} {u u' : Stands} (e : stand r d h = some u) (e' : stand r' d h' = some u') : r = r' := by
  have a := stand_rb e (r + r')
  have b := stand_rb e' (r + r')
  omega
theorem metD_some {u v w : Stands} (e : metD u v = some w) : (v.1 - u.1).natAbs = 1 ∧ agr u.2.1 v.2.1 = true ∧ agr u.2.2 v.2.2 = true ∧ w = (3 * u.1 + 2 * (v.1 - u.1), fst2 u.2.1 v.2.1, fst2 u.2.2 v.2.2) := by
  unfold metD at e
  split at e
  · rename_i c
    cases e
    exact ⟨c.1, c.2.1, c.2.2, rfl⟩
  · cases e
/-- a hand's own input is known, also where the thing is taken for the other hand's -/
theorem stand_own : ∀ {r : Nat} {d : PyData}, ∃ a : Int, (∀ u, stand r d 0 = some u → u.2.1 = some a ∧ (u.2.2 = none → u.1 = 0)) ∧ (∀ v, stand r d 1 = some v → v.2.2 = some a ∧ (v.2.1 = none → v.1 = 3 ^ r)) ∧ (∀ u v, stand r d 0 = some u → stand r d 1 = some v → u.2.2 = none ∨ v.2.1 = none → u.1 = 0 ∧ v.1 = 3 ^ r)
  | 0, d => by
    by_cases q : ∃ i, d = .int i
    · obtain ⟨i, rfl⟩ := q
      refine ⟨i, fun u e => ?_, fun v e => ?_, fun u v e f _ => ?_⟩
      · obtain ⟨j, ej, _, rfl⟩ := stand0 e
        cases ej
        exact ⟨rfl, fun _ => rfl⟩
      · obtain ⟨j, ej, _, rfl⟩ := stand0 e
        cases ej
        exact ⟨rfl, fun _ => rfl⟩
      · obtain ⟨j, ej, _, rfl⟩ := stand0 e
        obtain ⟨j2, ej2, _, rfl⟩ := stand0 f
        exact ⟨rfl, rfl⟩
    · have no : ∀ h u, stand 0 d h ≠ some u := fun h u e => by
        obtain ⟨i, ei, _⟩ := stand0 e
        exact q ⟨i, ei⟩
      exact ⟨0, fun u e => absurd e (no _ _), fun u e => absurd e (no _ _), fun u v e => absurd e (no _ _)⟩
  | r + 1, d => by
    by_cases q : ∃ x y, d = .tuple [x, y]
    · obtain ⟨x, y, rfl⟩ := q
      obtain ⟨a, h0, h1, h2⟩ := stand_own (r := r) (d := x)
      obtain ⟨b, k0, k1, k2⟩ := stand_own (r := r) (d := y)
      have p3 : (3 : Int) ^ (r + 1) = 3 * 3 ^ r := by rw [Int.pow_succ]; omega
      refine ⟨a, fun u e => ?_, fun v e => ?_, fun u v e f g => ?_⟩
      · obtain ⟨x', y', u0, ed, e0, e1⟩ := standS e
        cases ed
        obtain ⟨g1, g2⟩ := h0 _ e0
        rcases e1 with ⟨_, rfl⟩ | ⟨_, v, ev, em⟩
        · exact ⟨g1, fun z => by have := g2 z; show 3 * u0.1 = 0; omega⟩
        · obtain ⟨_, _, _, rfl⟩ := metD_some em
          obtain ⟨g3, _⟩ := k1 _ ev
          refine ⟨by show fst2 u0.2.1 v.2.1 = _; rw [g1]; rfl, fun z => ?_⟩
          have z' : fst2 u0.2.2 v.2.2 = none := z
          rw [g3] at z'
          cases e9 : u0.2.2 <;> rw [e9] at z' <;> cases z'
      · obtain ⟨x', y', u0, ed, e0, e1⟩ := standS e
        cases ed
        obtain ⟨g1, g2⟩ := h1 _ e0
        rcases e1 with ⟨_, rfl⟩ | ⟨_, v', ev, em⟩
        · exact ⟨g1, fun z => by have := g2 z; show 3 * u0.1 = _; omega⟩
        · obtain ⟨_, _, _, rfl⟩ := metD_some em
          obtain ⟨g3, _⟩ := k0 _ ev
          refine ⟨by show fst2 u0.2.2 v'.2.2 = _; rw [g1]; rfl, fun z => ?_⟩
          have z' : fst2 u0.2.1 v'.2.1 = none := z
          rw [g3] at z'
          cases e9 : u0.2.1 <;> rw [e9] at z' <;> cases z'
      · obtain ⟨x', y', u0, ed, e0, e1⟩ := standS e
        cases ed
        obtain ⟨x', y', v0, ed, f0, f1⟩ := standS f
        cases ed
        rcases e1 with ⟨_, rfl⟩ | ⟨c, v', ev, em⟩
        · rcases f1 with ⟨_, rfl⟩ | ⟨c, v', ev, em⟩
          · obtain ⟨z1, z2⟩ := h2 _ _ e0 f0 g
            exact ⟨by show 3 * u0.1 = 0; omega, by show 3 * v0.1 = _; omega⟩
          · rename_i c'
            rw [c] at c'; cases c'
        · rcases f1 with ⟨c', _⟩ | ⟨_, w, fw, fm⟩
          · rw [c] at c'; cases c'
          · obtain ⟨_, _, _, rfl⟩ := metD_some em
            obtain ⟨_, _, _, rfl⟩ := metD_some fm
            obtain ⟨g3, _⟩ := k1 _ ev
            obtain ⟨g4, _⟩ := k0 _ fw
            rcases g with g | g
            · have z' : fst2 u0.2.2 v'.2.2 = none := g
              rw [g3] at z'
              cases e9 : u0.2.2 <;> rw [e9] at z' <;> cases z'
            · have z' : fst2 v0.2.1 w.2.1 = none := g
              rw [g4] at z'
              cases e9 : v0.2.1 <;> rw [e9] at z' <;> cases z'
    · have no : ∀ h u, stand (r + 1) d h ≠ some u := fun h u e => by
        obtain ⟨x, y, _, ei, _⟩ := standS e
        exact q ⟨x, y, ei⟩
      exact ⟨0, fun u e => absurd e (no _ _), fun u e => absurd e (no _ _), fun u v e => absurd e (no _ _)⟩
/-- the inputs that stand in what hand h knows, of inputs a, b -/
def inp (a b : Int) (h : Nat) (u : Stands) : Prop := (u.2.1 = some a ∨ (h = 1 ∧ u.2.1 = none)) ∧ (u.2.2 = some b ∨ (h = 0 ∧ u.2.2 = none))
def At (a b : Int) (r : Nat) (d : PyData) (h : Nat) (j : Int) : Prop := ∃ u, stand r d h = some u ∧ u.1 = j ∧ inp a b h u
theorem At.int {a b : Int} (ha : 0 ≤ a) (hb : 0 ≤ b) {h : Nat} (hh : h < 2) : At a b 0 (if h = 0 then .int a else .int b) h (if h = 0 then 0 else 1) := by
  obtain rfl | rfl : h = 0 ∨ h = 1 := by omega
  · exact ⟨(0, some a, none), by simp [stand, ha], rfl, .inl rfl, .inr ⟨rfl, rfl⟩⟩
  · exact ⟨(1, none, some b), by simp [stand, hb], rfl, .inr ⟨rfl, rfl⟩, .inl rfl⟩
theorem At.alone {a b : Int} {r : Nat} {d : PyData} {h : Nat} {j : Int} (k : At a b r d h j) : At a b (r + 1) (.tuple [d, .none]) h (3 * j) := by
  obtain ⟨u, e, rfl, i⟩ := k
  exact ⟨(3 * u.1, u.2.1, u.2.2), by simp [stand, stand1, e, isN], rfl, i⟩
theorem inp_agr {a b : Int} {h h' : Nat} {u v : Stands} (i : inp a b h u) (k : inp a b h' v) : agr u.2.1 v.2.1 = true ∧ agr u.2.2 v.2.2 = true := by
  obtain ⟨i1, i2⟩ := i
  obtain ⟨k1, k2⟩ := k
  constructor
  · rcases i1 with e | ⟨_, e⟩ <;> rcases k1 with f | ⟨_, f⟩ <;> rw [e, f] <;> simp [agr]
  · rcases i2 with e | ⟨_, e⟩ <;> rcases k2 with f | ⟨_, f⟩ <;> rw [e, f] <;> simp [agr]
theorem At.met {a b : Int} {r : Nat} {d e : PyData} {h : Nat} {i j : Int} (hh : h < 2) (k : At a b r d h j) (l : At a b r e (1 - h) i) (n : (i - j).natAbs = 1) : At a b (r + 1) (.tuple [d, e]) h (3 * j + 2 * (i - j)) := by
  obtain ⟨u, e1, rfl, i1⟩ := k
  obtain ⟨v, e2, rfl, i2⟩ := l
  obtain ⟨g1, g2⟩ := inp_agr i1 i2
  refine ⟨(3 * u.1 + 2 * (v.1 - u.1), fst2 u.2.1 v.2.1, fst2 u.2.2 v.2.2), ?_, rfl, ?_, ?_⟩
  · have en := stand_isN e2
    show stand1 _ _ _ = _
    rw [e1, e2]
    unfold stand1 metD
    rw [Option.bind_some, if_neg (by rw [en]; decide), Option.bind_some, if_pos ⟨n, g1, g2⟩]
  · rcases i1.1 with z | ⟨y, z⟩
    · left; show fst2 u.2.1 v.2.1 = _; rw [z]; rfl
    · rcases i2.1 with z2 | ⟨y2, z2⟩
      · left; show fst2 u.2.1 v.2.1 = _; rw [z, z2]; rfl
      · omega
  · rcases i1.2 with z | ⟨y, z⟩
    · left; show fst2 u.2.2 v.2.2 = _; rw [z]; rfl
    · rcases i2.2 with z2 | ⟨y2, z2⟩
      · left; show fst2 u.2.2 v.2.2 = _; rw [z, z2]; rfl
      · omega
/-! the mirror of the places -/
structure Pm where
  q : Nat → Nat → Int
  l : Nat → Nat
  n : Nat → Nat
def Pm.nxt (p : Pm) (h : Nat) : Int := if p.l h < p.n (1 - h) then 3 * p.q h (p.l h) + 2 * (p.q (1 - h) (p.l h) - p.q h (p.l h)) else 3 * p.q h (p.l h)
def Pm.step (p : Pm) (h : Nat) : Pm :=
  if p.l h < p.n h then { q := upf p.q h (upf (p.q h) (p.l h + 1) (p.nxt h)), l := upf p.l h (p.l h + 1), n := p.n }
  else { q := p.q, l := p.l, n := upf p.n h (p.n h + 1) }
def P0 : Pm := { q := fun h _ => if h = 0 then 0 else 1, l := fun _ => 0, n := fun _ => 0 }
def Pm.run (p : Pm) (hs : List Nat) : Pm := hs.foldl Pm.step p
theorem Pm.run_snoc (p : Pm) (hs : List Nat) (h : Nat) : p.run (hs ++ [h]) = (p.run hs).step h := by
  unfold Pm.run
  rw [List.foldl_append]
  rfl
structure Nb (p : Pm) : Prop where
  n1 : ∀ h < 2, p.n h = p.l h ∨ p.n h = p.l h + 1
  n3 : ∀ t, t ≤ p.l 0 → t ≤ p.l 1 → (p.q 1 t - p.q 0 t).natAbs = 1
  n4 : ∀ h < 2, ∀ t, t < p.l h → p.q h (t + 1) = 3 * p.q h t ∨ (t < p.n (1 - h) ∧ p.q h (t + 1) = p.q h t + 2 * p.q (1 - h) t)
  n5 : ∀ h < 2, ∀ t, t ≤ p.l h → p.q h t % 2 = (h : Int) ∧ 0 ≤ p.q h t ∧ p.q h t ≤ 3 ^ t
theorem Nb.zero : Nb P0 where
  n1 := fun h _ => .inl rfl
  n3 := fun t _ _ => rfl
  n4 := fun h _ t ht => absurd ht (Nat.not_lt_zero _)
  n5 := fun h hh t ht => by
    obtain rfl : t = 0 := Nat.le_zero.mp ht
    obtain rfl | rfl : h = 0 ∨ h = 1 := by omega
    · exact ⟨rfl, by decide, by decide⟩
    · exact ⟨rfl, by decide, by decide⟩
theorem Nb.near {p : Pm} (N : Nb p) {h : Nat} (hh : h < 2) {t : Nat} (h1 : t ≤ p.l h) (h2 : t ≤ p.l (1 - h)) : (p.q (1 - h) t - p.q h t).natAbs = 1 := by
  obtain rfl | rfl : h = 0 ∨ h = 1 := by omega
  · exact N.n3 t h1 h2
  · have := N.n3 t h2 h1
    show (p.q 0 t - p.q 1 t).natAbs = 1
    omega
theorem Nb.step {p : Pm} (N : Nb p) {h : Nat} (hh : h < 2) : Nb (p.step h) := by
  have ho : 1 - h < 2 := by omega
  have hne : 1 - h ≠ h := by omega
  have a1 := N.n1 h hh
  have a2 := N.n1 (1 - h) ho
  unfold Pm.step
  by_cases c : p.l h < p.n h
  · rw [if_pos c]
    have lh : upf p.l h (p.l h + 1) h = p.l h + 1 := upf_same
    have lo : ∀ i, i ≠ h → upf p.l h (p.l h + 1) i = p.l i := fun i e => upf_ne e
    have qo : ∀ i, i ≠ h → upf p.q h (upf (p.q h) (p.l h + 1) (p.nxt h)) i = p.q i := fun i e => upf_ne e
    have qh : upf p.q h (upf (p.q h) (p.l h + 1) (p.nxt h)) h = upf (p.q h) (p.l h + 1) (p.nxt h) := upf_same
    have qt : ∀ t, t ≠ p.l h + 1 → upf (p.q h) (p.l h + 1) (p.nxt h) t = p.q h t := fun t e => upf_ne e
    have qn : upf (p.q h) (p.l h + 1) (p.nxt h) (p.l h + 1) = p.nxt h := upf_same
    have near' : ∀ t, t ≤ p.l h + 1 → t ≤ p.l (1 - h) → (p.q (1 - h) t - upf (p.q h) (p.l h + 1) (p.nxt h) t).natAbs = 1 := fun t t1 t2 => by
      by_cases e : t = p.l h + 1
      · subst e
        rw [qn]
        unfold Pm.nxt
        rw [if_pos (by omega)]
        have nr := N.near hh (Nat.le_refl _) (show p.l h ≤ p.l (1 - h) by omega)
        have m4 := N.n4 (1 - h) ho (p.l h) (by omega)
        rw [show 1 - (1 - h) = h by omega] at m4
        rcases m4 with m4 | ⟨_, m4⟩
        · omega
        · omega
      · rw [qt t e]
        exact N.near hh (by omega) t2
    refine { n1 := fun i hi => ?_, n3 := fun t t0 t1 => ?_, n4 := fun i hi t ht => ?_, n5 := fun i hi t ht => ?_ }
    · show p.n i = upf p.l h (p.l h + 1) i ∨ p.n i = upf p.l h (p.l h + 1) i + 1
      by_cases e : i = h
      · subst e; rw [lh]; omega
      · rw [lo i e]; exact N.n1 i hi
    · show (upf p.q h (upf (p.q h) (p.l h + 1) (p.nxt h)) 1 t - upf p.q h (upf (p.q h) (p.l h + 1) (p.nxt h)) 0 t).natAbs = 1
      have t0' : t ≤ upf p.l h (p.l h + 1) 0 := t0
      have t1' : t ≤ upf p.l h (p.l h + 1) 1 := t1
      obtain rfl | rfl : h = 0 ∨ h = 1 := by omega
      · rw [lh] at t0'
        rw [lo 1 (by decide)] at t1'
        rw [qh, qo 1 (by decide)]
        exact near' t t0' t1'
      · rw [lh] at t1'
        rw [lo 0 (by decide)] at t0'
        rw [qh, qo 0 (by decide)]
        have := near' t t1' t0'
        show (upf (p.q 1) (p.l 1 + 1) (p.nxt 1) t - p.q 0 t).natAbs = 1
        have z : (p.q 0 t - upf (p.q 1) (p.l 1 + 1) (p.nxt 1) t).natAbs = 1 := this
        omega
    · have ht' : t < upf p.l h (p.l h + 1) i := ht
      show upf p.q h (upf (p.q h) (p.l h + 1) (p.nxt h)) i (t + 1) = 3 * upf p.q h (upf (p.q h) (p.l h + 1) (p.nxt h)) i t ∨ (t < p.n (1 - i) ∧ upf p.q h (upf (p.q h) (p.l h + 1) (p.nxt h)) i (t + 1) = upf p.q h (upf (p.q h) (p.l h + 1) (p.nxt h)) i t + 2 * upf p.q h (upf (p.q h) (p.l h + 1) (p.nxt h)) (1 - i) t)
      by_cases e : i = h
      · subst e
        rw [lh] at ht'
        rw [qh, qo (1 - i) hne, qt t (by omega)]
        by_cases et : t = p.l i
        · subst et
          rw [qn]
          unfold Pm.nxt
          by_cases c2 : p.l i < p.n (1 - i)
          · rw [if_pos c2]; right; exact ⟨c2, by omega⟩
          · rw [if_neg c2]; left; rfl
        · rw [qt (t + 1) (by omega)]
          exact N.n4 i hi t (by omega)
      · rw [lo i e] at ht'
        have e1 : 1 - i = h := by omega
        rw [qo i e, e1, qh]
        have m4 := N.n4 i hi t ht'
        rw [e1] at m4
        rcases m4 with m4 | ⟨m5, m4⟩
        · exact .inl m4
        · right
          refine ⟨m5, ?_⟩
          rw [qt t (by omega)]
          exact m4
    · have ht' : t ≤ upf p.l h (p.l h + 1) i := ht
      show upf p.q h (upf (p.q h) (p.l h + 1) (p.nxt h)) i t % 2 = (i : Int) ∧ 0 ≤ upf p.q h (upf (p.q h) (p.l h + 1) (p.nxt h)) i t ∧ upf p.q h (upf (p.q h) (p.l h + 1) (p.nxt h)) i t ≤ 3 ^ t
      by_cases e : i = h
      · subst e
        rw [lh] at ht'
        rw [qh]
        by_cases et : t = p.l i + 1
        · subst et
          rw [qn]
          obtain ⟨b1, b2, b3⟩ := N.n5 i hi (p.l i) (Nat.le_refl _)
          have p3 : (3 : Int) ^ (p.l i + 1) = 3 * 3 ^ p.l i := by rw [Int.pow_succ]; omega
          unfold Pm.nxt
          by_cases c2 : p.l i < p.n (1 - i)
          · rw [if_pos c2]
            obtain ⟨d1, d2, d3⟩ := N.n5 (1 - i) ho (p.l i) (by omega)
            refine ⟨by omega, by omega, by omega⟩
          · rw [if_neg c2]
            refine ⟨by omega, by omega, by omega⟩
        · rw [qt t et]
          exact N.n5 i hi t (by omega)
      · rw [lo i e] at ht'
        rw [qo i e]
        exact N.n5 i hi t ht'
  · rw [if_neg c]
    refine { n1 := fun i hi => ?_, n3 := N.n3, n4 := fun i hi t ht => ?_, n5 := N.n5 }
    · show upf p.n h (p.n h + 1) i = p.l i ∨ upf p.n h (p.n h + 1) i = p.l i + 1
      by_cases e : i = h
      · subst e; rw [upf_same]; omega
      · rw [upf_ne e]; exact N.n1 i hi
    · show p.q i (t + 1) = 3 * p.q i t ∨ (t < upf p.n h (p.n h + 1) (1 - i) ∧ p.q i (t + 1) = p.q i t + 2 * p.q (1 - i) t)
      rcases N.n4 i hi t ht with m | ⟨m1, m2⟩
      · exact .inl m
      · right
        refine ⟨?_, m2⟩
        by_cases e : 1 - i = h
        · rw [e] at m1 ⊢; rw [upf_same]; omega
        · rw [upf_ne e]; exact m1
/-- what is known and where it stands -/
structure Rel (a b : Int) (m : M) (p : Pm) : Prop where
  l : ∀ h < 2, m.l h = p.l h
  n : ∀ h < 2, (m.c h).length = p.n h
  c : ∀ h < 2, ∀ t, t < p.n h → At a b t ((m.c h).getD t .none) h (p.q h t)
  k : ∀ h < 2, At a b (p.l h) (m.k h) h (p.q h (p.l h))
theorem Rel.zero {a b : Int} (ha : 0 ≤ a) (hb : 0 ≤ b) : Rel a b (M0 a b) P0 where
  l := fun h _ => rfl
  n := fun h _ => rfl
  c := fun h _ t ht => absurd ht (Nat.not_lt_zero _)
  k := fun h hh => At.int ha hb hh
theorem Rel.step {a b : Int} {m : M} {p : Pm} (R : Rel a b m p) (N : Nb p) {h : Nat} (hh : h < 2) : Rel a b (m.step h) (p.step h) := by
  have ho : 1 - h < 2 := by omega
  have hne : 1 - h ≠ h := by omega
  have a1 := N.n1 h hh
  have a2 := N.n1 (1 - h) ho
  have rl := R.l h hh
  have rn := R.n h hh
  have rno := R.n (1 - h) ho
  unfold Pm.step M.step
  by_cases c : p.l h < p.n h
  · rw [if_pos c, if_pos (show m.l h < (m.c h).length by omega)]
    have qo : ∀ i, i ≠ h → upf p.q h (upf (p.q h) (p.l h + 1) (p.nxt h)) i = p.q i := fun i e => upf_ne e
    have qh : upf p.q h (upf (p.q h) (p.l h + 1) (p.nxt h)) h = upf (p.q h) (p.l h + 1) (p.nxt h) := upf_same
    have qt : ∀ t, t ≠ p.l h + 1 → upf (p.q h) (p.l h + 1) (p.nxt h) t = p.q h t := fun t e => upf_ne e
    have qn : upf (p.q h) (p.l h + 1) (p.nxt h) (p.l h + 1) = p.nxt h := upf_same
    refine { l := fun i hi => ?_, n := R.n, c := fun i hi t ht => ?_, k := fun i hi => ?_ }
    · show upf m.l h (m.l h + 1) i = upf p.l h (p.l h + 1) i
      by_cases e : i = h
      · subst e; rw [upf_same, upf_same]; omega
      · rw [upf_ne e, upf_ne e]; exact R.l i hi
    · show At a b t ((m.c i).getD t .none) i (upf p.q h (upf (p.q h) (p.l h + 1) (p.nxt h)) i t)
      have old := R.c i hi t ht
      by_cases e : i = h
      · subst e
        have ht' : t < p.n i := ht
        rw [qh, qt t (by omega)]
        exact old
      · rw [qo i e]; exact old
    · show At a b (upf p.l h (p.l h + 1) i) (upf m.k h _ i) i (upf p.q h (upf (p.q h) (p.l h + 1) (p.nxt h)) i (upf p.l h (p.l h + 1) i))
      by_cases e : i = h
      · subst e
        rw [upf_same, upf_same, qh, qn, rl]
        unfold Pm.nxt
        have mine := R.k i hi
        by_cases c2 : p.l i < p.n (1 - i)
        · rw [if_pos c2]
          exact At.met hi mine (R.c (1 - i) ho (p.l i) c2) (N.near hi (Nat.le_refl _) (by omega))
        · rw [if_neg c2, List.getD_eq_getElem?_getD, List.getElem?_eq_none (by omega)]
          exact mine.alone
      · rw [upf_ne e, upf_ne e, qo i e]
        exact R.k i hi
  · rw [if_neg c, if_neg (show ¬ m.l h < (m.c h).length by omega)]
    refine { l := R.l, n := fun i hi => ?_, c := fun i hi t ht => ?_, k := R.k }
    · show (upf m.c h (m.c h ++ [m.k h]) i).length = upf p.n h (p.n h + 1) i
      by_cases e : i = h
      · subst e; rw [upf_same, upf_same, List.length_append, rn]; rfl
      · rw [upf_ne e, upf_ne e]; exact R.n i hi
    · show At a b t ((upf m.c h (m.c h ++ [m.k h]) i).getD t .none) i (p.q i t)
      have ht' : t < upf p.n h (p.n h + 1) i := ht
      by_cases e : i = h
      · subst e
        rw [upf_same] at ht' ⊢
        by_cases et : t < p.n i
        · rw [List.getD_eq_getElem?_getD, List.getElem?_append_left (by omega), ← List.getD_eq_getElem?_getD]
          exact R.c i hi t et
        · have eq1 : t = p.l i := by omega
          rw [List.getD_eq_getElem?_getD, List.getElem?_append_right (by omega), rn, show t - p.n i = 0 by omega]
          rw [eq1]
          exact R.k i hi
      · rw [upf_ne e] at ht' ⊢
        exact R.c i hi t ht'
theorem run_both {a b : Int} (ha : 0 ≤ a) (hb : 0 ≤ b) : ∀ {hs : List Nat} {m : M} {p : Pm}, (∀ h ∈ hs, h < 2) → Rel a b m p → Nb p → Rel a b (m.run hs) (p.run hs) ∧ Nb (p.run hs)
  | [], m, p, _, R, N => ⟨R, N⟩
  | h :: r, m, p, q, R, N => run_both ha hb (hs := r) (m := m.step h) (p := p.step h) (fun x hx => q x (List.mem_cons_of_mem _ hx)) (R.step N (q h List.mem_cons_self)) (N.step (q h List.mem_cons_self))
def Pm.done (p : Pm) (h : Nat) : Nat := p.l h + p.n h
end TA

set_option Elab.async false
set_option maxRecDepth 100000
set_option maxHeartbeats 4000000
namespace TA
open PySem L2 PyProof.Rows
set_option linter.unusedVariables false
def isI : PyData → Bool
  | .int _ => true
  | _ => false
def isT : PyData → Bool
  | .tuple _ => true
  | _ => false
def ov : Option Int → V
  | none => .non
  | some i => .int i
def stV (u : Stands) : List V := [.int u.1, ov u.2.1, ov u.2.2]
def spWholeK : Sp := fun vs H Q _ => ∃ (v : V) (d : PyData), vs = [v] ∧ Kn H v d ∧ Q (.bl (isI d)) H
def spRb : Sp := fun vs H Q _ => ∃ (v : V) (d : PyData), vs = [v] ∧ Kn H v d ∧ Q (.int (rb 5 d : Nat)) H
def spAgr : Sp := fun vs H Q _ => ∃ a b : Option Int, vs = [ov a, ov b] ∧ Q (.bl (agr a b)) H
def spMet : Sp := fun vs H Q _ => ∃ (p q : Addr) (u v : Stands), vs = [.ref p, .ref q] ∧ H p = some (.tup (stV u)) ∧ H q = some (.tup (stV v)) ∧ (metD u v = none → Q .non H) ∧ ∀ w, metD u v = some w → ∀ (o : Addr) (H' : Hp), Same H H' → H' o = some (.tup (stV w)) → Q (.ref o) H'
def spStand (r : Nat) : Sp := fun vs H Q _ => ∃ (v : V) (d : PyData) (h : Nat), vs = [v, .int (h : Int), .int (r : Int)] ∧ Kn H v d ∧ h < 2 ∧ (stand r d h = none → ∀ H', Same H H' → Q .non H') ∧ ∀ u, stand r d h = some u → ∀ (o : Addr) (H' : Hp), Same H H' → H' o = some (.tup (stV u)) → Q (.ref o) H'
theorem Kn.ty {K : PySem.W.Frag} {H : Hp} {v : V} {d : PyData} (h : Kn H v d) : (∃ i, v = .int i ∧ d = .int i) ∨ (v = .non ∧ d = .none) ∨ ∃ a x y e f, v = .ref a ∧ d = .tuple [e, f] ∧ H a = some (.tup [x, y]) ∧ Kn H x e ∧ Kn H y f := by
  cases h with
  | int i => exact .inl ⟨i, rfl, rfl⟩
  | non => exact .inr (.inl ⟨rfl, rfl⟩)
  | tup h a b => exact .inr (.inr ⟨_, _, _, _, _, rfl, rfl, h, a, b⟩)
section
variable {P : Program} {w : World} {K : PySem.W.Frag} {mg : Str → Option Value} {base : Heap}
theorem ok_wholeK {f : Addr} {fd : FuncData} (F : Fun K "is_whole" "is_whole" sWhole f fd) (T : Txt K mg) : FnOk P w K mg base CX0 1 f fd ["thing"] spWholeK := by
  refine F.ok scWhole (fun vs H Q E h => ?_) (fun cdv A outer s H vs Q E hr h => ?_)
  · obtain ⟨v, d, rfl, _⟩ := h
    rfl
  obtain ⟨v, d, rfl, hk, q⟩ := h
  refine ⟨_, pss_one (ps_ret (pe_and (pe_callB call_isi (by rfl) T.isi boot_isinstance (pa_cons (pv 0) (pa_cons (pe_bltn (v := .ty "int") (by rfl) T.int boot_int rfl) pa_nil)))
    (pe_one (pe_not (pe_callB call_isi (by rfl) T.isi boot_isinstance (pa_cons (pv 0) (pa_cons (pe_bltn (v := .ty "bool") (by rfl) T.bool boot_bool rfl) pa_nil))))))), ?_⟩
  rcases hk.ty (K := K) with ⟨i, rfl, rfl⟩ | ⟨rfl, rfl⟩ | ⟨a, x, y, e, g, rfl, rfl, ha, _, _⟩
  · refine ⟨_, rfl, V.int i, V.ty "int", _, _, true, rfl, .ty "int", .base (.int i), kit_ty (by decide +kernel), true, rfl, iteT ?_⟩
    exact ⟨_, rfl, V.int i, V.ty "bool", _, _, false, rfl, .ty "bool", .base (.int i), kit_ty (by decide +kernel), false, rfl, q⟩
  · exact ⟨_, rfl, V.non, V.ty "int", _, _, false, rfl, .ty "int", .base .non, kit_ty (by decide +kernel), false, rfl, iteF q⟩
  · exact ⟨_, rfl, V.ref a, V.ty "int", _, _, false, rfl, .ty "int", .base (.tup ha), kit_ty (by decide +kernel), false, rfl, iteF q⟩
theorem scRb : FnScope ["thing", "rounds"] ["thing"] (defScope s_rounds_behind) := ⟨rfl, rfl, rfl, by decide +kernel, rfl, by decide +kernel, by decide +kernel⟩
theorem ok_rb {f : Addr} {fd : FuncData} (F : Fun K "rounds_behind" "rounds_behind" s_rounds_behind f fd) (T : Txt K mg) (U : Txt2 K mg) : FnOk P w K mg base CX0 1 f fd ["thing"] spRb := by
  refine F.ok scRb (fun vs H Q E h => ?_) (fun cdv A outer s H vs Q E hr h => ?_)
  · obtain ⟨v, d, rfl, _⟩ := h
    rfl
  obtain ⟨v, d, rfl, hk, q⟩ := h
  obtain ⟨t5, m5⟩ := U.five
  have nd := scRb.nd
  refine ⟨_, pss_cons (ps_set (i := 1) nd rfl (Or.inl rfl) pe_int)
    (pss_cons (ps_while PassesOwn.never (PW.pt (pw_and (pt_cmpR op_lt (pv 1) (pe_glob (v := .int 5) rfl m5 ⟨_, rfl⟩) (nomark _)) (pw_and (pt_val (pe_callB call_isi (by rfl) T.isi boot_isinstance (pa_cons (pv 0) (pa_cons (pe_bltn (v := .ty "tuple") (by rfl) T.tuple boot_tuple rfl) pa_nil)))) (pw_and1 (pt_cmpR op_eq (pe_callB call_len_seq (by rfl) T.len PySem.boot_len (pa_cons (pv 0) pa_nil)) pe_int (nomark _))))))
      (pss_cons (ps_set (i := 0) nd rfl (Or.inl rfl) (pe_ix ix_tup (pv 0) pe_int (fun _ _ => rfl)))
      (pss_one (ps_aug (i := 1) nd rfl (Or.inl rfl) pe_int ip_add))))
    (pss_one (ps_ret (pv 1)))), ?_⟩
  refine ⟨fun m σ H' => ∃ (k : Nat) (v' : V) (d' : PyData), σ = [some v', some (.int (k : Int))] ∧ H' = H ∧ Kn H v' d' ∧ m + k = 5 ∧ rb 5 d = k + rb m d', ⟨5, 0, v, d, rfl, rfl, hk, rfl, (Nat.zero_add _).symm⟩, ?_⟩
  rintro m σ H' ⟨k, v', d', rfl, rfl, hk', hm, he⟩
  refine ⟨_, rfl, _, _, rfl, rfl, _, rfl, ?_⟩
  by_cases c : k < 5
  · rw [decide_eq_true (show ((k : Nat) : Int) < 5 by omega)]
    refine iteT ?_
    obtain ⟨m', rfl⟩ : ∃ m', m = m' + 1 := ⟨m - 1, by omega⟩
    rcases hk'.ty (K := K) with ⟨i, rfl, rfl⟩ | ⟨rfl, rfl⟩ | ⟨a, x, y, e, g, rfl, rfl, ha, hx, hy⟩
    · refine ⟨_, rfl, V.int i, V.ty "tuple", _, _, false, rfl, .ty "tuple", .base (.int i), kit_ty (by decide +kernel), false, rfl, iteF (iteF ?_)⟩
      refine ⟨_, rfl, ?_⟩
      rw [show rb 5 d = k from by rw [he]; simp [rb]] at q
      exact q
    · refine ⟨_, rfl, V.non, V.ty "tuple", _, _, false, rfl, .ty "tuple", .base .non, kit_ty (by decide +kernel), false, rfl, iteF (iteF ?_)⟩
      refine ⟨_, rfl, ?_⟩
      rw [show rb 5 d = k from by rw [he]; simp [rb]] at q
      exact q
    · refine ⟨_, rfl, V.ref a, V.ty "tuple", _, _, true, rfl, .ty "tuple", .base (.tup ha), kit_ty (by decide +kernel), true, rfl, iteT ?_⟩
      refine ⟨_, rfl, a, _, rfl, .inr (SqT.of ha), rfl, _, rfl, iteT ?_⟩
      refine ⟨fun σ' H'' => ∃ m'' < m' + 1, ∃ (k : Nat) (v' : V) (d' : PyData), σ' = [some v', some (.int (k : Int))] ∧ H'' = H' ∧ Kn H' v' d' ∧ m'' + k = 5 ∧ rb 5 d = k + rb m'' d', fun σ' H'' h => h, ?_⟩
      refine ⟨_, rfl, a, _, _, _, rfl, rfl, SqT.of ha, (by rfl), ?_⟩
      refine ⟨_, rfl, _, _, rfl, rfl, m', Nat.lt_succ_self _, k + 1, x, e, rfl, rfl, hx, by omega, ?_⟩
      rw [he]
      simp only [rb]
      omega
  · rw [decide_eq_false (show ¬ ((k : Nat) : Int) < 5 by omega)]
    refine iteF (iteF ?_)
    refine ⟨_, rfl, ?_⟩
    obtain rfl : m = 0 := by omega
    rw [show rb 5 d = k from by rw [he]; simp [rb]] at q
    exact q
theorem scAgr : FnScope ["one", "other"] ["one", "other"] (defScope s_agrees) := ⟨rfl, rfl, rfl, by decide +kernel, rfl, by decide +kernel, by decide +kernel⟩
theorem ok_agr {f : Addr} {fd : FuncData} (F : Fun K "agrees" "agrees" s_agrees f fd) : FnOk P w K mg base CX0 1 f fd ["one", "other"] spAgr := by
  refine F.ok scAgr (fun vs H Q E h => ?_) (fun cdv A outer s H vs Q E hr h => ?_)
  · obtain ⟨a, b, rfl, _⟩ := h
    rfl
  obtain ⟨a, b, rfl, q⟩ := h
  refine ⟨_, pss_one (ps_ret (pe_or (pe_cmpR op_isN (pv 0) pe_non (nomark _)) (pe_or (pe_cmpR op_isN (pv 1) pe_non (nomark _)) (pe_one (pe_cmpR op_eq (pv 0) (pv 1) (nomark _)))))), ?_⟩
  refine ⟨_, rfl, rfl, _, rfl, ?_⟩
  cases a with
  | none => exact iteT q
  | some i =>
    refine iteF ⟨_, rfl, rfl, _, rfl, ?_⟩
    cases b with
    | none => exact iteT q
    | some j =>
      refine iteF ⟨_, rfl, _, rfl, rfl, ?_⟩
      have e : decide (V.int i = V.int j) = agr (some i) (some j) := by
        show decide (V.int i = V.int j) = decide (i = j)
        by_cases c : i = j
        · subst c; simp
        · rw [decide_eq_false (show ¬ i = j from c), decide_eq_false (fun z => c (by injection z))]
      show Q (.bl (decide (V.int i = V.int j))) H
      rw [e]
      exact q
end
end TA

set_option Elab.async false
set_option maxRecDepth 100000
set_option maxHeartbeats 4000000
namespace TA
open PySem L2 PyProof.Rows
set_option linter.unusedVariables false
structure RaiseC (K : PySem.W.Frag) (mg : Str → Option Value) (n : Str) (C : Addr) : Prop where
  m : mg n = some (.ref C)
  x : PySem.W.excIn K C [.type "ValueError", .type "Exception", .type "BaseException", .type "object"] "ValueError.__new__" = true
  k : PySem.W.keepIn K (.ref C) = true
  b : PySem.W.subIn K (.ref C) (.type "BaseException") = some true
  t : PySem.W.typeIn K (.ref C) = some (.type "type")
/-- a hand that is one: what it knows, its place, or the refusal -/
def spPlace (cN : Addr) : Sp := fun vs H Q E => ∃ (v : V) (d : PyData) (h : Nat), vs = [v, .int (h : Int)] ∧ Kn H v d ∧ h < 2 ∧ (placeD d h = none → ∀ H', Same H H' → E (.ref cN) none H') ∧ ∀ j, placeD d h = some j → ∀ H', Same H H' → Q (.int j) H'
theorem fst2_ov (a b : Option Int) : ov (fst2 a b) = if a = none then ov b else ov a := by
  cases a <;> rfl
section
variable {P : Program} {w : World} {K : PySem.W.Frag} {mg : Str → Option Value} {base : Heap}
theorem stV_at0 (u : Stands) : atI (stV u) 0 = some (.int u.1) := rfl
theorem stV_at1 (u : Stands) : atI (stV u) 1 = some (ov u.2.1) := rfl
theorem stV_at2 (u : Stands) : atI (stV u) 2 = some (ov u.2.2) := rfl
abbrev nMet : List Str := ["own", "other", "at", "own0", "own1", "seen_at", "other0", "other1"]
theorem scMet : FnScope nMet ["own", "other"] (defScope s_met) := ⟨rfl, rfl, rfl, by decide +kernel, rfl, by decide +kernel, by decide +kernel⟩
theorem ok_met {f g : Addr} {fd gd : FuncData} (F : Fun K "met" "met" s_met f fd) (mA : mg "abs" = none) (A1 : Def P w K mg base "agrees" ["one", "other"] 1 spAgr g gd) : FnOk P w K mg base CX0 2 f fd ["own", "other"] spMet := by
  refine F.ok scMet (fun vs H Q E h => ?_) (fun cdv A outer s H vs Q E hr h => ?_)
  · obtain ⟨p, q, u, v, rfl, _⟩ := h
    rfl
  obtain ⟨p, q, u, v, rfl, hp, hq, q0, q1⟩ := h
  have nd := scMet.nd
  refine ⟨_, pss_cons (ps_asg (pv 0) (pg_tup (by rfl) (pgs_cons (pg_name (i := 2) nd rfl (Or.inl rfl)) (pgs_cons (pg_name (i := 3) nd rfl (Or.inl rfl)) (pgs_cons (pg_name (i := 4) nd rfl (Or.inl rfl)) pgs_nil)))))
    (pss_cons (ps_asg (pv 1) (pg_tup (by rfl) (pgs_cons (pg_name (i := 5) nd rfl (Or.inl rfl)) (pgs_cons (pg_name (i := 6) nd rfl (Or.inl rfl)) (pgs_cons (pg_name (i := 7) nd rfl (Or.inl rfl)) pgs_nil)))))
    (pss_cons (ps_if (PW.pt (pw_or (pt_cmpR op_ne (pe_callB call_abs (by rfl) mA (by decide +kernel) (pa_cons (pe_op op_sub (pv 2) (pv 5)) pa_nil)) pe_int (nomark _)) (pw_or (pt_not (pt_val (pe_call A1.G hr rfl A1.m A1.k A1.b .nil pass0 (pa_cons (pv 3) (pa_cons (pv 6) pa_nil))))) (pw_or1 (pt_not (pt_val (pe_call A1.G hr rfl A1.m A1.k A1.b .nil pass0 (pa_cons (pv 4) (pa_cons (pv 7) pa_nil)))))))) ) (pss_one (ps_ret pe_non)) pss_nil)
    (pss_one (ps_ret (pe_tup (pa_cons (pe_op op_add (pe_op op_mul pe_int (pv 2)) (pe_op op_mul pe_int (pe_op op_sub (pv 5) (pv 2)))) (pa_cons (pe_ifExp (pt_cmpR op_isN (pv 3) pe_non (nomark _)) (pv 6) (pv 3)) (pa_cons (pe_ifExp (pt_cmpR op_isN (pv 4) pe_non (nomark _)) (pv 7) (pv 4)) pa_nil)))))))), ?_⟩
  refine ⟨_, rfl, p, _, rfl, SqT.of hp, rfl, _, _, rfl, _, _, rfl, _, _, rfl, rfl, ?_⟩
  refine ⟨_, rfl, q, _, rfl, SqT.of hq, rfl, _, _, rfl, _, _, rfl, _, _, rfl, rfl, ?_⟩
  refine ⟨_, rfl, _, rfl, _, _, rfl, rfl, _, rfl, rfl, _, rfl, ?_⟩
  have habs : (if u.1 - v.1 < 0 then -(u.1 - v.1) else u.1 - v.1) = (((v.1 - u.1).natAbs : Nat) : Int) := by split <;> omega
  rw [habs]
  by_cases c1 : (v.1 - u.1).natAbs = 1
  case neg =>
    have e1 : (!decide (V.int (((v.1 - u.1).natAbs : Nat) : Int) = V.int 1)) = true := by
      rw [decide_eq_false (fun e => c1 (by injection e with e; omega))]; rfl
    rw [e1]
    refine iteT (iteT ?_)
    exact q0 (by unfold metD; rw [if_neg (fun z => c1 z.1)])
  have e1 : (!decide (V.int (((v.1 - u.1).natAbs : Nat) : Int) = V.int 1)) = false := by
    rw [decide_eq_true (by rw [c1]; rfl)]; rfl
  rw [e1]
  refine iteF ?_
  refine ⟨_, rfl, _, rfl, u.2.1, v.2.1, rfl, agr u.2.1 v.2.1, rfl, ?_⟩
  by_cases c2 : agr u.2.1 v.2.1 = true
  case neg =>
    rw [Bool.eq_false_iff.mpr c2]
    refine iteT (iteT ?_)
    exact q0 (by unfold metD; rw [if_neg (fun z => c2 z.2.1)])
  rw [c2]
  refine iteF ?_
  refine ⟨_, rfl, _, rfl, u.2.2, v.2.2, rfl, agr u.2.2 v.2.2, rfl, ?_⟩
  by_cases c3 : agr u.2.2 v.2.2 = true
  case neg =>
    rw [Bool.eq_false_iff.mpr c3]
    refine iteT ?_
    exact q0 (by unfold metD; rw [if_neg (fun z => c3 z.2.2)])
  rw [c3]
  refine iteF ?_
  refine ⟨_, rfl, _, _, rfl, rfl, .inl ⟨by decide, by decide⟩, _, rfl, _, rfl, _, _, rfl, rfl, _, _, rfl, rfl, .inl ⟨by decide, by decide⟩, _, _, rfl, rfl, ?_⟩
  have fin : ∀ x y : V, x = ov (fst2 u.2.1 v.2.1) → y = ov (fst2 u.2.2 v.2.2) → 3 ≤ sizeLine ∧ ∀ t, H t = none → Q (.ref t) (upd H t (.tup [.int (3 * u.1 + 2 * (v.1 - u.1)), x, y])) := fun x y ex ey =>
    ⟨by decide, fun t ht => q1 _ (by unfold metD; rw [if_pos ⟨c1, c2, c3⟩]) t _ (same_new ht _) (by rw [upd_same, ex, ey]; rfl)⟩
  refine ⟨_, rfl, rfl, _, rfl, ?_⟩
  cases o1 : u.2.1 with
  | none =>
    refine iteT ⟨_, rfl, ?_⟩
    refine ⟨_, rfl, rfl, _, rfl, ?_⟩
    cases o2 : u.2.2 with
    | none => exact iteT ⟨_, rfl, fin _ _ (by rw [o1]; rfl) (by rw [o2]; rfl)⟩
    | some i => exact iteF ⟨_, rfl, fin _ _ (by rw [o1]; rfl) (by rw [o2]; rfl)⟩
  | some i =>
    refine iteF ⟨_, rfl, ?_⟩
    refine ⟨_, rfl, rfl, _, rfl, ?_⟩
    cases o2 : u.2.2 with
    | none => exact iteT ⟨_, rfl, fin _ _ (by rw [o1]; rfl) (by rw [o2]; rfl)⟩
    | some i => exact iteF ⟨_, rfl, fin _ _ (by rw [o1]; rfl) (by rw [o2]; rfl)⟩
abbrev nStand : List Str := ["thing", "hand", "rounds", "own", "other"]
theorem scStand : FnScope nStand ["thing", "hand", "rounds"] (defScope s_standing) := ⟨rfl, rfl, rfl, by decide +kernel, rfl, by decide +kernel, by decide +kernel⟩
theorem ok_stand {f g1 g2 : Addr} {fd d1 d2 : FuncData} (F : Fun K "standing" "standing" s_standing f fd) (T : Txt K mg) (W : Def P w K mg base "is_whole" ["thing"] 1 spWholeK g1 d1) (M1 : Def P w K mg base "met" ["own", "other"] 2 spMet g2 d2) (bF : Binds K fd ["thing", "hand", "rounds"] []) (kF : PySem.W.keepIn K (.ref f) = true) (mF : mg "standing" = some (.ref f)) :
    ∀ r, FnOk P w K mg base CX0 (3 + r) f fd ["thing", "hand", "rounds"] (spStand r)
  | 0 => by
    refine F.ok scStand (fun vs H Q E h => ?_) (fun cdv A outer s H vs Q E hr h => ?_)
    · obtain ⟨v, d, h, rfl, _⟩ := h
      rfl
    obtain ⟨v, d, h, rfl, hk, hh, q0, q1⟩ := h
    have nd := scStand.nd
    refine ⟨_, pss_cons (ps_if (pt_cmpR op_eq (pv 2) pe_int (nomark _))
        (pss_cons (ps_if (PW.pt (pw_or (pt_not (pt_val (pe_call W.G (hr.mono (by decide)) rfl W.m W.k W.b .nil pass0 (pa_cons (pv 0) pa_nil)))) (pw_or1 (pt_cmpR op_lt (pv 0) pe_int (nomark _))))) (pss_one (ps_ret pe_non)) pss_nil)
        (pss_one (ps_ret (pe_ifExp (pt_cmpR op_eq (pv 1) pe_int (nomark _)) (pe_tup (pa_cons pe_int (pa_cons (pv 0) (pa_cons pe_non pa_nil)))) (pe_tup (pa_cons pe_int (pa_cons pe_non (pa_cons (pv 0) pa_nil)))))))) pss_nil)
      pss_never, ?_⟩
    refine ⟨_, rfl, rfl, _, rfl, ?_⟩
    refine iteT ?_
    refine ⟨_, rfl, v, d, rfl, hk, isI d, rfl, ?_⟩
    rcases hk.ty (K := K) with ⟨i, rfl, rfl⟩ | ⟨rfl, rfl⟩ | ⟨a, x, y, e, g, rfl, rfl, ha, hx, hy⟩
    · refine iteF ⟨_, rfl, _, _, rfl, rfl, _, rfl, ?_⟩
      refine ite2 (fun c => ?_) (fun c => ?_)
      · have c' : i < 0 := of_decide_eq_true c
        exact q0 (by simp [stand]; omega) _ (Same.refl H)
      · have c' : ¬ i < 0 := of_decide_eq_false (Bool.eq_false_iff.mpr c)
        have e0 : stand 0 (.int i) h = some (if h = 0 then (0, some i, none) else (1, none, some i)) := by simp [stand]; omega
        refine ⟨_, rfl, rfl, _, rfl, ?_⟩
        obtain rfl | rfl : h = 0 ∨ h = 1 := by omega
        · refine iteT ⟨_, rfl, (by show 3 ≤ sizeLine; decide), fun t ht => q1 _ e0 t _ (same_new ht _) (by rw [upd_same]; rfl)⟩
        · refine iteF ⟨_, rfl, (by show 3 ≤ sizeLine; decide), fun t ht => q1 _ e0 t _ (same_new ht _) (by rw [upd_same]; rfl)⟩
    · exact iteT (iteT (q0 rfl _ (Same.refl H)))
    · exact iteT (iteT (q0 rfl _ (Same.refl H)))
  | r + 1 => by
    have ih := ok_stand F T W M1 bF kF mF r
    refine F.ok (k := 3 + r) scStand (fun vs H Q E h => ?_) (fun cdv A outer s H vs Q E hr h => ?_)
    · obtain ⟨v, d, h, rfl, _⟩ := h
      rfl
    obtain ⟨v, d, h, rfl, hk, hh, q0, q1⟩ := h
    have nd := scStand.nd
    refine ⟨_, pss_cons (ps_if (pt_cmpR op_eq (pv 2) pe_int (nomark _)) pss_never pss_nil)
      (pss_cons (ps_if (PW.pt (pw_or (pt_not (pt_val (pe_callB call_isi (by rfl) T.isi boot_isinstance (pa_cons (pv 0) (pa_cons (pe_bltn (v := .ty "tuple") (by rfl) T.tuple boot_tuple rfl) pa_nil))))) (pw_or1 (pt_cmpR op_ne (pe_callB call_len_seq (by rfl) T.len PySem.boot_len (pa_cons (pv 0) pa_nil)) pe_int (nomark _))))) (pss_one (ps_ret pe_non)) pss_nil)
      (pss_cons (ps_set (i := 3) nd rfl (Or.inl rfl) (pe_call ih hr rfl mF kF bF .nil pass0 (pa_cons (pe_ix ix_tup (pv 0) pe_int (fun _ _ => rfl)) (pa_cons (pv 1) (pa_cons (pe_op op_sub (pv 2) pe_int) pa_nil)))))
      (pss_cons (ps_if (pt_cmpR op_isN (pv 3) pe_non (nomark _)) (pss_one (ps_ret pe_non)) pss_nil)
      (pss_cons (ps_if (pt_cmpR op_isN (pe_ix ix_tup (pv 0) pe_int (fun _ _ => rfl)) pe_non (nomark _)) (pss_one (ps_ret (pe_tup (pa_cons (pe_op op_mul pe_int (pe_ix ix_tup (pv 3) pe_int (fun _ _ => rfl))) (pa_cons (pe_ix ix_tup (pv 3) pe_int (fun _ _ => rfl)) (pa_cons (pe_ix ix_tup (pv 3) pe_int (fun _ _ => rfl)) pa_nil)))))) pss_nil)
      (pss_cons (ps_set (i := 4) nd rfl (Or.inl rfl) (pe_call ih hr rfl mF kF bF .nil pass0 (pa_cons (pe_ix ix_tup (pv 0) pe_int (fun _ _ => rfl)) (pa_cons (pe_op op_sub pe_int (pv 1)) (pa_cons (pe_op op_sub (pv 2) pe_int) pa_nil)))))
      (pss_one (ps_ret (pe_ifExp (pt_cmpR op_isN (pv 4) pe_non (nomark _)) pe_non (pe_call M1.G (hr.mono (by omega)) rfl M1.m M1.k M1.b .nil pass0 (pa_cons (pv 3) (pa_cons (pv 4) pa_nil)))))))))))
, ?_⟩
    refine ⟨_, rfl, rfl, _, rfl, ?_⟩
    have e0 : decide (V.int ((r + 1 : Nat) : Int) = V.int 0) = false := decide_eq_false (fun e => by injection e with e; omega)
    rw [e0]
    refine iteF ?_
    rcases hk.ty (K := K) with ⟨i, rfl, rfl⟩ | ⟨rfl, rfl⟩ | ⟨a, x, y, e, g, rfl, rfl, ha, hx, hy⟩
    · refine ⟨_, rfl, V.int i, V.ty "tuple", _, _, false, rfl, .ty "tuple", .base (.int i), kit_ty (by decide +kernel), false, rfl, iteT (iteT ?_)⟩
      exact q0 rfl _ (Same.refl H)
    · refine ⟨_, rfl, V.non, V.ty "tuple", _, _, false, rfl, .ty "tuple", .base .non, kit_ty (by decide +kernel), false, rfl, iteT (iteT ?_)⟩
      exact q0 rfl _ (Same.refl H)
    · refine ⟨_, rfl, V.ref a, V.ty "tuple", _, _, true, rfl, .ty "tuple", .base (.tup ha), kit_ty (by decide +kernel), true, rfl, iteF ?_⟩
      refine ⟨_, rfl, a, _, rfl, .inr (SqT.of ha), rfl, _, rfl, iteF ?_⟩
      have er : ((r + 1 : Nat) : Int) - 1 = (r : Int) := by omega
      refine ⟨_, rfl, a, _, _, _, rfl, rfl, SqT.of ha, (by rfl), _, rfl, _, rfl, _, _, rfl, rfl, ?_⟩
      refine ⟨x, e, h, (by show [x, V.int (h : Int), V.int (((r + 1 : Nat) : Int) - 1)] = _; rw [er]), hx, hh, fun n1 H1 s1 => ?_, fun u n1 p H1 s1 hp => ?_⟩
      · refine ⟨_, rfl, rfl, _, rfl, iteT ?_⟩
        exact q0 (by show stand1 _ _ _ = none; rw [n1]; rfl) _ s1
      · refine ⟨_, rfl, rfl, _, rfl, iteF ?_⟩
        have ha1 := s1 _ _ ha
        refine ⟨_, rfl, a, _, _, _, rfl, rfl, SqT.of ha1, (by rfl), rfl, _, rfl, ?_⟩
        have hyN : decide (y = V.non) = isN g := by
          cases hy <;> rfl
        rw [hyN]
        cases cN : isN g with
        | true =>
          refine iteT ⟨_, rfl, p, _, _, _, rfl, rfl, SqT.of hp, (by rfl), _, _, rfl, rfl, .inl ⟨by decide, by decide⟩, _, rfl, p, _, _, _, rfl, rfl, SqT.of hp, (by rfl), _, rfl, p, _, _, _, rfl, rfl, SqT.of hp, (by rfl), (by show 3 ≤ sizeLine; decide), fun t ht => ?_⟩
          exact q1 (3 * u.1, u.2.1, u.2.2) (by show stand1 _ _ _ = _; rw [n1]; unfold stand1; rw [Option.bind_some, if_pos cN]) t _ (s1.trans (same_new ht _)) (by rw [upd_same]; rfl)
        | false =>
          refine iteF ⟨_, rfl, a, _, _, _, rfl, rfl, SqT.of ha1, (by rfl), _, rfl, _, _, rfl, rfl, _, rfl, _, _, rfl, rfl, ?_⟩
          have est : ∀ z, stand r g (1 - h) = z → stand (r + 1) (.tuple [e, g]) h = z.bind (metD u) := fun z hz => by
            show stand1 _ _ _ = _
            rw [n1, hz]
            unfold stand1
            rw [Option.bind_some, if_neg (by rw [cN]; decide)]
          refine ⟨y, g, 1 - h, (by show [y, V.int ((1 : Int) - (h : Int)), V.int (((r + 1 : Nat) : Int) - 1)] = _; rw [er, show (1 : Int) - (h : Int) = ((1 - h : Nat) : Int) by omega]), hy.mono (Tups.same s1), by omega, fun n2 H2 s2 => ?_, fun u2 n2 p2 H2 s2 hp2 => ?_⟩
          · refine ⟨_, rfl, rfl, _, rfl, iteT ?_⟩
            exact q0 (by rw [est _ n2]; rfl) _ (s1.trans s2)
          · refine ⟨_, rfl, rfl, _, rfl, iteF ?_⟩
            refine ⟨_, rfl, _, rfl, p, p2, u, u2, rfl, s2 _ _ hp, hp2, fun n3 => ?_, fun w3 n3 o H3 s3 ho => ?_⟩
            · exact q0 (by rw [est _ n2]; exact n3) _ (s1.trans s2)
            · exact q1 w3 (by rw [est _ n2]; exact n3) o _ (s1.trans (s2.trans s3)) ho
theorem scPlace : FnScope ["known", "hand", "stands"] ["known", "hand"] (defScope sPlace) := ⟨rfl, rfl, rfl, by decide +kernel, rfl, by decide +kernel, by decide +kernel⟩
theorem ok_place {f g1 g2 g3 cN : Addr} {fd d1 d2 d3 : FuncData} (F : Fun K "place" "place" sPlace f fd) (R : RaiseC K mg "NoKnown" cN) (W1 : Def P w K mg base "is_hand" ["thing"] 3 spHand g1 d1) (W2 : Def P w K mg base "rounds_behind" ["thing"] 1 spRb g2 d2)
    (bS : Binds K d3 ["thing", "hand", "rounds"] []) (kS : PySem.W.keepIn K (.ref g3) = true) (mS : mg "standing" = some (.ref g3)) (S : ∀ r, r ≤ 5 → FnOk P w K mg base CX0 (3 + r) g3 d3 ["thing", "hand", "rounds"] (spStand r)) :
    FnOk P w K mg base (L2.CX P w) 9 f fd ["known", "hand"] (spPlace cN) := by
  refine F.okX scPlace (fun vs H Q E h => ?_) (fun cdv A outer s H vs Q E hr h => ?_)
  · obtain ⟨v, d, h, rfl, _⟩ := h
    rfl
  obtain ⟨v, d, h, rfl, hk, hh, q0, q1⟩ := h
  have nd := scPlace.nd
  have h5 : rb 5 d ≤ 5 := by
    have key : ∀ (n : Nat) (d : PyData), rb n d ≤ n := by
      intro n
      induction n with
      | zero => intro d; simp [rb]
      | succ n ih =>
        intro d
        match d with
        | .tuple [x, y] => simp only [rb]; have := ih x; omega
        | .tuple [] | .tuple [_] | .tuple (_ :: _ :: _ :: _) | .none | .bool _ | .int _ | .str _ | .list _ | .dict _ => simp [rb]
    exact key 5 d
  refine ⟨_, pss_cons (ps_if (pt_not (pt_val (pe_call W1.G (hr.mono (by decide)) rfl W1.m W1.k W1.b .nil pass0 (pa_cons (pv 1) pa_nil)))) pss_never pss_nil)
    (pss_cons (ps_set (i := 2) nd rfl (Or.inl rfl) (pe_call (S (rb 5 d) h5) (hr.mono (by omega)) rfl mS kS bS .nil pass0 (pa_cons (pv 0) (pa_cons (pv 1) (pa_cons (pe_call W2.G (hr.mono (by decide)) rfl W2.m W2.k W2.b .nil pass0 (pa_cons (pv 0) pa_nil)) pa_nil)))))
    (pss_cons (ps_if (pt_cmpR op_isN (pv 2) pe_non (nomark _)) (pss_one (ps_raise rfl (takes_of rfl rfl rfl rfl) (pmk_own PySem.F.excBase_ValueError R.x R.m R.k (raises_own R.b R.t) (by exact rfl)))) pss_nil)
    (PSs.nox (pss_one (ps_ret (pe_ix ix_tup (pv 2) pe_int (fun _ _ => rfl))))))), ?_⟩
  have e1 : decide ((0 : Int) ≤ (h : Int) ∧ (h : Int) ≤ 1) = true := decide_eq_true (by omega)
  refine ⟨_, rfl, (h : Int), rfl, true, congrArg V.bl e1, iteF ?_⟩
  refine ⟨_, rfl, _, rfl, _, rfl, v, d, rfl, hk, v, d, h, rfl, hk, hh, fun n1 H1 s1 => ?_, fun u n1 p H1 s1 hp => ?_⟩
  · refine ⟨_, rfl, rfl, _, rfl, iteT ?_⟩
    exact q0 (by unfold placeD; rw [n1]; rfl) _ s1
  · refine ⟨_, rfl, rfl, _, rfl, iteF ?_⟩
    exact ⟨_, rfl, p, _, _, _, rfl, rfl, SqT.of hp, (by rfl), q1 u.1 (by unfold placeD; rw [n1]; rfl) _ s1⟩
end
end TA

set_option Elab.async false
set_option maxRecDepth 100000
set_option maxHeartbeats 4000000
namespace TA
open PySem L2 PyProof.Rows
set_option linter.unusedVariables false
def ky (t h : Nat) : List Key := [Sum.inl (t : Int), Sum.inl (h : Int)]
theorem ky_inj {t h t' h' : Nat} : ky t' h' = ky t h ↔ t' = t ∧ h' = h := by
  unfold ky
  constructor
  · intro e
    injection e with e1 e2
    injection e2 with e2 _
    injection e1 with e1
    injection e2 with e2
    omega
  · rintro ⟨rfl, rfl⟩
    rfl
def Pm.cur (p : Pm) (h : Nat) : Int := p.q h (p.l h)
theorem Pm.done_step (p : Pm) (z i : Nat) : (p.step z).done i = upf p.done z (p.done z + 1) i := by
  unfold Pm.step
  by_cases c : p.l z < p.n z
  · rw [if_pos c]
    show upf p.l z (p.l z + 1) i + p.n i = _
    by_cases e : i = z
    · subst e; rw [upf_same, upf_same]; unfold Pm.done; omega
    · rw [upf_ne e, upf_ne e]; rfl
  · rw [if_neg c]
    show p.l i + upf p.n z (p.n z + 1) i = _
    by_cases e : i = z
    · subst e; rw [upf_same, upf_same]; unfold Pm.done; omega
    · rw [upf_ne e, upf_ne e]; rfl
theorem Pm.done_run (p : Pm) (i : Nat) : ∀ hs : List Nat, (p.run hs).done i = p.done i + hs.count i := by
  intro hs
  induction hs generalizing p with
  | nil => rfl
  | cons h r ih =>
    show ((p.step h).run r).done i = _
    rw [ih, Pm.done_step, List.count_cons]
    unfold upf
    by_cases e : i = h
    · subst e; simp; omega
    · have e2 : ¬ h = i := fun q => e q.symm
      simp [e, e2]
theorem Nb.half {p : Pm} (N : Nb p) {z : Nat} (hz : z < 2) : p.done z / 2 = p.l z ∧ (p.done z % 2 = 0 ↔ ¬ p.l z < p.n z) ∧ (¬ p.l z < p.n z → p.n z = p.l z) := by
  have := N.n1 z hz
  unfold Pm.done
  omega
structure PlS (H0 H : Hp) (sp dn cd : Addr) (p : Pm) : Prop where
  same : Same H0 H
  f1 : H0 sp = none
  f2 : H0 dn = none
  f3 : H0 cd = none
  n1 : sp ≠ dn
  n2 : sp ≠ cd
  n3 : dn ≠ cd
  hs : H sp = some (.lst [.int (p.cur 0), .int (p.cur 1)])
  hd : H dn = some (.lst [.int (p.done 0 : Nat), .int (p.done 1 : Nat)])
  hc : ∃ kvs, H cd = some (.dT kvs) ∧ kvs.length ≤ p.done 0 + p.done 1 ∧ ∀ h < 2, ∀ t : Nat, valV kvs (ky t h) = if t < p.n h then some (V.int (p.q h t)) else none
  nb : Nb p
theorem PlS.new {H0 H : Hp} {sp dn cd : Addr} {p : Pm} (S : PlS H0 H sp dn cd p) {q : Addr} (hq : H q = none) (o : HO) : PlS H0 (upd H q o) sp dn cd p := by
  have s := same_new hq o
  obtain ⟨kvs, h3, h4, h5⟩ := S.hc
  exact { S with same := S.same.trans s, hs := s _ _ S.hs, hd := s _ _ S.hd, hc := ⟨kvs, s _ _ h3, h4, h5⟩ }
theorem Pm.sum_step (p : Pm) {z : Nat} (hz : z < 2) : (p.step z).done 0 + (p.step z).done 1 = p.done 0 + p.done 1 + 1 := by
  rw [Pm.done_step, Pm.done_step]
  obtain rfl | rfl : z = 0 ∨ z = 1 := by omega
  · show p.done 0 + 1 + p.done 1 = _; omega
  · show p.done 0 + (p.done 1 + 1) = _; omega
theorem PlS.put {H0 H : Hp} {sp dn cd : Addr} {p : Pm} (S : PlS H0 H sp dn cd p) {z : Nat} (hz : z < 2) (c : ¬ p.l z < p.n z) {kvs : List (List Key × V)} (hcd : H cd = some (.dT kvs)) :
    PlS H0 (upd (upd H cd (.dT (putK kvs (ky (p.l z) z) (.int (p.cur z))))) dn (.lst [.int ((p.step z).done 0 : Nat), .int ((p.step z).done 1 : Nat)])) sp dn cd (p.step z) := by
  have es : p.step z = { q := p.q, l := p.l, n := upf p.n z (p.n z + 1) } := by unfold Pm.step; rw [if_neg c]
  have hl := (S.nb.half hz).2.2 c
  obtain ⟨kvs', h3, h4, h5⟩ := S.hc
  rw [hcd] at h3
  cases h3
  refine { S with same := same_upd (same_upd S.same S.f3) S.f2, hs := ?_, hd := upd_same, hc := ⟨_, by rw [upd_ne S.n3.symm, upd_same], ?_, fun h hh t => ?_⟩, nb := S.nb.step hz }
  · rw [upd_ne S.n1, upd_ne S.n2, es]; exact S.hs
  · have g1 := length_putK kvs (ky (p.l z) z) (.int (p.cur z))
    rw [Pm.sum_step p hz]
    generalize (putK kvs (ky (p.l z) z) (.int (p.cur z))).length = n at g1 ⊢
    omega
  · rw [valV_put, es]
    show (if ky t h = ky (p.l z) z then _ else _) = if t < upf p.n z (p.n z + 1) h then some (V.int (p.q h t)) else none
    by_cases e : h = z
    · subst e
      rw [upf_same]
      by_cases et : t = p.l h
      · subst et
        rw [if_pos rfl, if_pos (by omega)]
        rfl
      · rw [if_neg (fun q => et (ky_inj.mp q).1), h5 h hh t]
        by_cases ct : t < p.n h
        · rw [if_pos ct, if_pos (by omega)]
        · rw [if_neg ct, if_neg (by omega)]
    · rw [upf_ne e, if_neg (fun q => e (ky_inj.mp q).2)]
      exact h5 h hh t
theorem cur_look (p : Pm) {z : Nat} (c : p.l z < p.n z) (i : Nat) : (p.step z).cur i = upf p.cur z (p.nxt z) i := by
  unfold Pm.step
  rw [if_pos c]
  show upf p.q z (upf (p.q z) (p.l z + 1) (p.nxt z)) i (upf p.l z (p.l z + 1) i) = _
  by_cases e : i = z
  · subst e; rw [upf_same, upf_same, upf_same, upf_same]
  · rw [upf_ne e, upf_ne e, upf_ne e]; rfl
theorem PlS.look {H0 H : Hp} {sp dn cd : Addr} {p : Pm} (S : PlS H0 H sp dn cd p) {z : Nat} (hz : z < 2) (c : p.l z < p.n z) :
    PlS H0 (upd (upd H sp (.lst [.int ((p.step z).cur 0), .int ((p.step z).cur 1)])) dn (.lst [.int ((p.step z).done 0 : Nat), .int ((p.step z).done 1 : Nat)])) sp dn cd (p.step z) := by
  have es : p.step z = { q := upf p.q z (upf (p.q z) (p.l z + 1) (p.nxt z)), l := upf p.l z (p.l z + 1), n := p.n } := by unfold Pm.step; rw [if_pos c]
  obtain ⟨kvs, h3, h4, h5⟩ := S.hc
  refine { S with same := same_upd (same_upd S.same S.f1) S.f2, hs := by rw [upd_ne S.n1, upd_same], hd := upd_same, hc := ⟨kvs, by rw [upd_ne S.n3.symm, upd_ne S.n2.symm]; exact h3, by rw [Pm.sum_step p hz]; omega, fun h hh t => ?_⟩, nb := S.nb.step hz }
  rw [h5 h hh t, es]
  show _ = if t < p.n h then some (V.int (upf p.q z (upf (p.q z) (p.l z + 1) (p.nxt z)) h t)) else none
  by_cases e : h = z
  · subst e
    rw [upf_same]
    by_cases ct : t < p.n h
    · have := S.nb.n1 h hh
      rw [if_pos ct, if_pos ct, upf_ne (show t ≠ p.l h + 1 by omega)]
    · rw [if_neg ct, if_neg ct]
  · rw [upf_ne e]
theorem doneP_set (p : Pm) {z : Nat} (hz : z < 2) : ([.int (p.done 0 : Nat), .int (p.done 1 : Nat)] : List V).set z (.int (((p.done z : Nat) : Int) + 1)) = [.int ((p.step z).done 0 : Nat), .int ((p.step z).done 1 : Nat)] := by
  rw [Pm.done_step, Pm.done_step]
  exact ints_set p.done hz (p.done z + 1)
theorem curP_set (p : Pm) {z : Nat} (hz : z < 2) (c : p.l z < p.n z) : ([.int (p.cur 0), .int (p.cur 1)] : List V).set z (.int (p.nxt z)) = [.int ((p.step z).cur 0), .int ((p.step z).cur 1)] := by
  rw [cur_look p c, cur_look p c]
  have := two_set (fun j => V.int (p.cur j)) hz (V.int (p.nxt z))
  rw [upf_map (fun n : Int => V.int n) p.cur z (p.nxt z) 0, upf_map (fun n : Int => V.int n) p.cur z (p.nxt z) 1] at this
  exact this
/-- the place where a hand stands behind all its steps -/
def plv (p : Pm) (d : Nat) (h : Nat) : V := if p.done h = 2 * d then .int (p.cur h) else .non
def spPlaces (K : PySem.W.Frag) : Sp := fun vs H Q _ => ∃ (p : Addr) (hs : List Nat) (d : Nat), vs = [.ref p, .int (d : Int)] ∧ SqL K H p (hl hs) ∧ (∀ h ∈ hs, h < 2) ∧ hs.length ≤ 40 ∧
  ∀ (o : Addr) (H' : Hp), Same H H' → H o = none → H' o = some (.lst [plv (P0.run hs) d 0, plv (P0.run hs) d 1]) → Q (.ref o) H'
def spPower : Sp := fun vs H Q _ => ∃ d : Nat, vs = [.int (d : Int)] ∧ d ≤ 100 ∧ Q (.int (3 ^ d)) H
section
variable {P : Program} {w : World} {K : PySem.W.Frag} {mg : Str → Option Value} {base : Heap}
theorem scPower : FnScope ["_law_deep", "_law_found", "_law_turn"] ["_law_deep"] (defScope sPower) := ⟨rfl, rfl, rfl, by decide +kernel, rfl, by decide +kernel, by decide +kernel⟩
theorem ok_power {f : Addr} {fd : FuncData} (F : Fun K "_law_power" "_law_power" sPower f fd) (T : Txt K mg) : FnOk P w K mg base CX0 1 f fd ["_law_deep"] spPower := by
  refine F.ok scPower (fun vs H Q E h => ?_) (fun cdv A outer s H vs Q E hr h => ?_)
  · obtain ⟨d, rfl, _⟩ := h
    rfl
  obtain ⟨d, rfl, hd, q⟩ := h
  have nd := scPower.nd
  refine ⟨_, pss_cons (ps_set (i := 1) nd rfl (Or.inl rfl) pe_int)
    (pss_cons (ps_for PassesOwn.never rfl (pi_range1 rfl T.range (pa_cons (pv 0) pa_nil)) (pg_name (i := 2) nd rfl (Or.inl rfl))
      (pss_one (ps_set (i := 1) nd rfl (Or.inl rfl) (pe_op op_mul pe_int (pv 1)))))
    (pss_one (ps_ret (pv 1)))), ?_⟩
  refine ⟨_, rfl, _, rfl, by omega, by omega, for_range (n := d) (fun i σ Hc => ∃ g, σ = [some (.int (d : Int)), some (.int (3 ^ i)), g] ∧ Hc = H) ⟨none, rfl, rfl⟩ ?_ ?_⟩
  · rintro i σ Hc hi ⟨g, rfl, rfl⟩
    have e : (3 : Int) ^ (i + 1) = 3 * 3 ^ i := by rw [Int.pow_succ]; omega
    exact ⟨_, rfl, _, _, rfl, rfl, .inl ⟨by decide, by decide⟩, some (.int (0 + (i : Int))), by rw [e]; rfl, rfl⟩
  · rintro σ Hc ⟨g, rfl, rfl⟩
    exact ⟨_, rfl, q⟩
end
end TA

set_option Elab.async false
set_option maxRecDepth 100000
set_option maxHeartbeats 4000000
namespace TA
open PySem L2 PyProof.Rows
set_option linter.unusedVariables false
theorem At.place {a b : Int} {r : Nat} {d : PyData} {h : Nat} {j : Int} (k : At a b r d h j) (hr : r ≤ 5) : placeD d h = some j := by
  obtain ⟨u, e, rfl, _⟩ := k
  unfold placeD
  rw [stand_rb e 5, show min 5 r = r by omega, e]
  rfl
/-- behind a weaving: what is known, and where it stands -/
theorem behind {a b : Int} (ha : 0 ≤ a) (hb : 0 ≤ b) {hs : List Nat} (hh : ∀ h ∈ hs, h < 2) {d h : Nat} (h2 : h < 2) (hc : hs.count h = 2 * d) :
    ((M0 a b).run hs).res d h = ((M0 a b).run hs).k h ∧ At a b d (((M0 a b).run hs).k h) h ((P0.run hs).cur h) ∧ plv (P0.run hs) d h = .int ((P0.run hs).cur h) ∧ (P0.run hs).l h = d := by
  obtain ⟨R, N⟩ := run_both ha hb hh (Rel.zero ha hb) Nb.zero
  have d1 : ((M0 a b).run hs).done h = 2 * d := by rw [M.done_run, hc]; show 0 + 0 + _ = _; omega
  have d2 : (P0.run hs).done h = 2 * d := by rw [Pm.done_run, hc]; show 0 + 0 + _ = _; omega
  have n1 := N.n1 h h2
  have hl : (P0.run hs).l h = d := by unfold Pm.done at d2; omega
  refine ⟨by unfold M.res; rw [if_pos d1], ?_, by unfold plv; rw [if_pos d2], hl⟩
  have := R.k h h2
  rw [hl] at this
  unfold Pm.cur
  rw [hl]
  exact this
theorem stopped_res {a b : Int} {hs : List Nat} {d h : Nat} (hc : hs.count h ≠ 2 * d) : ((M0 a b).run hs).res d h = .none ∧ plv (P0.run hs) d h = .non := by
  have d1 : ¬ ((M0 a b).run hs).done h = 2 * d := by rw [M.done_run]; show ¬ 0 + 0 + _ = _; omega
  have d2 : ¬ (P0.run hs).done h = 2 * d := by rw [Pm.done_run]; show ¬ 0 + 0 + _ = _; omega
  exact ⟨by unfold M.res; rw [if_neg d1], by unfold plv; rw [if_neg d2]⟩
theorem cur_facts {a b : Int} (ha : 0 ≤ a) (hb : 0 ≤ b) {hs : List Nat} (hh : ∀ h ∈ hs, h < 2) {d h : Nat} (h2 : h < 2) (hc : hs.count h = 2 * d) : (P0.run hs).cur h % 2 = (h : Int) ∧ 0 ≤ (P0.run hs).cur h ∧ (P0.run hs).cur h ≤ 3 ^ d := by
  obtain ⟨R, N⟩ := run_both ha hb hh (Rel.zero ha hb) Nb.zero
  have hl := (behind ha hb hh h2 hc).2.2.2
  have := N.n5 h h2 ((P0.run hs).l h) (Nat.le_refl _)
  rw [hl] at this
  unfold Pm.cur
  rw [hl]
  exact this
theorem cur_near {a b : Int} (ha : 0 ≤ a) (hb : 0 ≤ b) {hs : List Nat} (hh : ∀ h ∈ hs, h < 2) {d : Nat} (c0 : hs.count 0 = 2 * d) (c1 : hs.count 1 = 2 * d) : ((P0.run hs).cur 1 - (P0.run hs).cur 0).natAbs = 1 := by
  obtain ⟨R, N⟩ := run_both ha hb hh (Rel.zero ha hb) Nb.zero
  have l0 := (behind ha hb hh (h := 0) (by decide) c0).2.2.2
  have l1 := (behind ha hb hh (h := 1) (by decide) c1).2.2.2
  have := N.n3 d (by omega) (by omega)
  unfold Pm.cur
  rw [l0, l1]
  exact this
def tD : Option Int → PyData
  | some j => .int j
  | none => .str "known"
def tV : Option Int → V
  | some j => .int j
  | none => .str "known"
theorem tV_dp {K : PySem.W.Frag} {H : Hp} (o : Option Int) : Dp K H (tV o) (tD o) := by
  cases o with
  | none => exact .str _
  | some j => exact .int j
theorem tD_shaped (o : Option Int) : SeqAt.shaped (tD o) = true := by
  cases o with
  | none => decide +kernel
  | some j => rfl
section
variable {a b : Int} {d h : Nat} {mine its : PyData} {spot other : Int}
theorem deep5 (k : At a b 5 mine h spot) (y : PyData) : placeD (.tuple [mine, y]) h = none := by
  obtain ⟨u, e, _⟩ := k
  unfold placeD
  have : rb 5 (.tuple [mine, y]) = 5 := by
    show rb 4 mine + 1 = 5
    rw [stand_rb e 4]
    rfl
  rw [this]
  show (stand1 (stand 4 mine h) y (stand 4 y (1 - h))).map _ = none
  cases e4 : stand 4 mine h with
  | none => rfl
  | some v => exact absurd (stand_uniq e e4) (by decide)
theorem rb_tuple (k : At a b d mine h spot) (hd : d < 5) (y : PyData) : rb 5 (.tuple [mine, y]) = d + 1 := by
  obtain ⟨u, e, _⟩ := k
  show rb 4 mine + 1 = d + 1
  rw [stand_rb e 4, show min 4 d = d by omega]
theorem mixed_place (hh : h < 2) (k : At a b d mine h spot) (l : At a b d its (1 - h) other) (hd : d ≤ 5) : placeD (.tuple [mine, its]) h = if (other - spot).natAbs = 1 ∧ d < 5 then some (3 * spot + 2 * (other - spot)) else none := by
  by_cases h5 : d < 5
  · by_cases n : (other - spot).natAbs = 1
    · rw [if_pos ⟨n, h5⟩]
      exact (At.met hh k l n).place (by omega)
    · rw [if_neg (fun z => n z.1)]
      unfold placeD
      rw [rb_tuple k h5]
      obtain ⟨u, e, rfl, _⟩ := k
      obtain ⟨v, e2, rfl, _⟩ := l
      show (stand1 _ _ _).map _ = none
      rw [e, e2]
      unfold stand1 metD
      rw [Option.bind_some, if_neg (by rw [stand_isN e2]; decide), Option.bind_some, if_neg (fun z => n z.1)]
      rfl
  · obtain rfl : d = 5 := by omega
    rw [if_neg (fun z => h5 z.2)]
    exact deep5 k its
theorem none_place (k : At a b d mine h spot) (hd : d ≤ 5) : placeD (.tuple [mine, .none]) h = if d < 5 then some (3 * spot) else none := by
  by_cases h5 : d < 5
  · rw [if_pos h5]
    exact k.alone.place (by omega)
  · obtain rfl : d = 5 := by omega
    rw [if_neg h5]
    exact deep5 k .none
theorem pow3_ge {d : Nat} (hd : 1 ≤ d) : (3 : Int) ≤ 3 ^ d := by
  obtain ⟨e, rfl⟩ : ∃ e, d = e + 1 := ⟨d - 1, by omega⟩
  have : (1 : Int) ≤ 3 ^ e := by
    have := Int.pow_pos (n := 3) (m := e) (by decide)
    omega
  rw [Int.pow_succ]
  omega
theorem same_place (hh : h < 2) (k : At a b d mine h spot) (hd1 : 1 ≤ d) (hd : d ≤ 5) (ne : a ≠ b) : placeD (.tuple [mine, mine]) h = none := by
  by_cases h5 : d < 5
  · unfold placeD
    rw [rb_tuple k h5]
    obtain ⟨u, e, rfl, i1, i2⟩ := k
    show (stand1 _ _ _).map _ = none
    rw [e]
    unfold stand1
    rw [Option.bind_some, if_neg (by rw [stand_isN e]; decide)]
    cases e2 : stand d mine (1 - h) with
    | none => rfl
    | some v =>
      rw [Option.bind_some]
      unfold metD
      have p3 := pow3_ge hd1
      rw [if_neg]
      · rfl
      rintro ⟨z1, z2, z3⟩
      obtain ⟨x, s0, s1, s2⟩ := stand_own (r := d) (d := mine)
      obtain rfl | rfl : h = 0 ∨ h = 1 := by omega
      · have f1 := (s0 _ e).1
        have f2 := (s1 _ e2).1
        have ea : u.2.1 = some a := by
          rcases i1 with q | ⟨q, _⟩
          · exact q
          · cases q
        rcases i2 with q | ⟨_, q⟩
        · rw [q, f2] at z3
          have : b = x := of_decide_eq_true z3
          rw [f1] at ea
          cases ea
          exact ne this.symm
        · have := s2 _ _ e e2 (.inl q)
          omega
      · have f1 := (s1 _ e).1
        have f2 := (s0 _ e2).1
        have eb : u.2.2 = some b := by
          rcases i2 with q | ⟨q, _⟩
          · exact q
          · cases q
        rcases i1 with q | ⟨_, q⟩
        · rw [q, f2] at z2
          have : a = x := of_decide_eq_true z2
          rw [f1] at eb
          cases eb
          exact ne this
        · have := s2 _ _ e2 e (.inr q)
          omega
  · obtain rfl : d = 5 := by omega
    exact deep5 k mine
end
/-- known(inputs, weaving, rounds = deep): how the arguments bind -/
abbrev KnB (K : PySem.W.Frag) (fd : FuncData) : Prop := KBn K fd ["inputs", "weaving", "rounds"] 2 ["rounds"] (fun us ws => us ++ ws) (fun vs zs => vs ++ zs)
structure KDef (P : Program) (w : World) (K : PySem.W.Frag) (mg : Str → Option Value) (base : Heap) (f : Addr) (fd : FuncData) : Prop where
  G : FnOk P w K mg base CX0 5 f fd ["inputs", "weaving", "rounds"] (spKnown K)
  b : KnB K fd
  k : PySem.W.keepIn K (.ref f) = true
  m : mg "known" = some (.ref f)
theorem kn_binds {K : PySem.W.Frag} {f : Addr} {fd : FuncData} (F : Fun K "known" "known" sKnown f fd) : KnB K fd := by
  obtain ⟨oc, od, kV, doc, pm, an, cdv, ct, osl, rfl, lk, hcd⟩ := F.ex
  refine ⟨fun s us ws _ h1 h2 => ?_, fun r q => r.append q⟩
  match us, ws, h1, h2 with
  | [_, _], [_], _, _ => exact .of_eq rfl
theorem But.tups {a : Addr} {H H' : Hp} {n : Int} (b : But a H H') (w : WellAt H a n) : Tups H H' := fun c xs e => by
  obtain ⟨x, y, z, ea, _⟩ := w
  exact b _ _ (ne_of e ea (fun q => by cases q)) e
theorem iteT' {c : Bool} {A B : Prop} (e : c = true) (a : A) : if c = true then A else B := by rw [if_pos e]; exact a
theorem iteF' {c : Bool} {A B : Prop} (e : c = false) (b : B) : if c = true then A else B := by rw [e]; exact b
structure PDef (P : Program) (w : World) (K : PySem.W.Frag) (mg : Str → Option Value) (base : Heap) (cN : Addr) (f : Addr) (fd : FuncData) : Prop where
  G : FnOk P w K mg base (L2.CX P w) 9 f fd ["known", "hand"] (spPlace cN)
  b : Binds K fd ["known", "hand"] []
  k : PySem.W.keepIn K (.ref f) = true
  m : mg "place" = some (.ref f)
theorem passN {X : Cx} (σ : L2.St) : PassesAt (L2.CX X.prog X.w) X σ (fun _ _ _ => False) := fun _ _ _ _ _ _ c => by
  obtain ⟨_, _, _, _, _, _, _, _, _, _, _, _, z⟩ := c
  exact z.elim
theorem Kn.isNon {H : Hp} {v : V} {d : PyData} (k : Kn H v d) : decide (v = .non) = isN d := by
  cases k <;> rfl
theorem join2 {b : Bool} {X : Prop} {R : L2.St → Hp → Prop} {σ : L2.St} {H : Hp} (Iv : L2.St → Hp → Prop) (h0 : Iv σ H) (k : ∀ σ Hc, Iv σ Hc → R σ Hc) (h1 : b = true → (∀ σ Hc, Iv σ Hc → R σ Hc) → X) : if b = true then X else R σ H := by
  cases b with
  | false => exact iteF (k σ H h0)
  | true => exact iteT (h1 rfl k)
theorem But.wells {a p : Addr} {H H' : Hp} {n : Int} {o : HO} (b : But a H H') (w : WellAt H a n) (hp : H p = some o) (ne : ∀ x y z : Int, o ≠ .lst [.int x, .int y, .int z]) : H' p = some o := by
  obtain ⟨x, y, z, ea, _⟩ := w
  exact b _ _ (ne_of hp ea (ne x y z)) hp
def spRight : Sp := fun vs H Q _ => ∃ a : Addr, vs = [.ref a] ∧ WellAt H a 0 ∧ ∀ H', But a H H' → Q (.bl true) H'
end TA

set_option Elab.async false
set_option maxRecDepth 100000
set_option maxHeartbeats 4000000
namespace TA
open PySem L2 PyProof.Rows
set_option linter.unusedVariables false
/-! rows: lists of ints at addresses rs, all of them new behind H0 -/
inductive RowsOf (H0 H : Hp) : List Addr → List (List Int) → Prop
  | nil : RowsOf H0 H [] []
  | cons {r : Addr} {rs : List Addr} {xs : List Int} {xss : List (List Int)} : H0 r = none → H r = some (.lst (xs.map V.int)) → RowsOf H0 H rs xss → RowsOf H0 H (r :: rs) (xs :: xss)
theorem RowsOf.mono {H0 H H' : Hp} (s : Same H H') : ∀ {rs xss}, RowsOf H0 H rs xss → RowsOf H0 H' rs xss
  | _, _, .nil => .nil
  | _, _, .cons a b c => .cons a (s _ _ b) (c.mono s)
theorem RowsOf.back {H00 H0 H : Hp} (s : Same H00 H0) : ∀ {rs xss}, RowsOf H0 H rs xss → RowsOf H00 H rs xss
  | _, _, .nil => .nil
  | _, _, .cons a b c => .cons (s.free a) b (c.back s)
theorem RowsOf.updD {H0 H : Hp} {D : Addr} {o u : HO} (hD : H0 D = some u) : ∀ {rs xss}, RowsOf H0 H rs xss → RowsOf H0 (upd H D o) rs xss
  | _, _, .nil => .nil
  | _, _, .cons a b c => .cons a (by rw [upd_ne (ne_of_none hD a).symm]; exact b) (c.updD hD)
theorem RowsOf.app {H0 H : Hp} {ss yss} (h2 : RowsOf H0 H ss yss) : ∀ {rs xss}, RowsOf H0 H rs xss → RowsOf H0 H (rs ++ ss) (xss ++ yss)
  | _, _, .nil => h2
  | _, _, .cons a b c => .cons a b (h2.app c)
theorem RowsOf.snoc {H0 H : Hp} {rs xss} {r : Addr} {xs : List Int} (h : RowsOf H0 H rs xss) (a : H0 r = none) (b : H r = some (.lst (xs.map V.int))) : RowsOf H0 H (rs ++ [r]) (xss ++ [xs]) := RowsOf.app (.cons a b .nil) h
theorem RowsOf.len {H0 H : Hp} : ∀ {rs xss}, RowsOf H0 H rs xss → rs.length = xss.length
  | _, _, .nil => rfl
  | _, _, .cons _ _ c => congrArg (· + 1) c.len
theorem RowsOf.get {H0 H : Hp} : ∀ {rs xss} {i : Nat} {v : V}, RowsOf H0 H rs xss → (rs.map V.ref)[i]? = some v → ∃ r xs, v = .ref r ∧ xss[i]? = some xs ∧ H0 r = none ∧ H r = some (.lst (xs.map V.int))
  | _, _, i, _, .nil, e => by simp at e
  | _, _, 0, _, .cons (r := r) (xs := xs) a b c, e => ⟨r, xs, by simpa using e.symm, by simp, a, b⟩
  | _, _, i + 1, v, .cons a b c, e => by
    obtain ⟨r, xs, h1, h2, h3, h4⟩ := RowsOf.get (i := i) (v := v) c (by simpa using e)
    exact ⟨r, xs, h1, by simpa using h2, h3, h4⟩
def toD (xss : List (List Int)) : PyData := .list (xss.map fun xs => .list (xs.map PyData.int))
theorem ints_dp {K : PySem.W.Frag} {H : Hp} : ∀ xs : List Int, DpAll K H (xs.map V.int) (xs.map PyData.int)
  | [] => .nil
  | x :: r => .cons (.int x) (ints_dp r)
theorem RowsOf.dp {K : PySem.W.Frag} {H0 H : Hp} : ∀ {rs xss}, RowsOf H0 H rs xss → DpAll K H (rs.map V.ref) (xss.map fun xs => .list (xs.map PyData.int))
  | _, _, .nil => .nil
  | _, _, .cons _ b c => .cons (.lst (SqL.of b) (ints_dp _)) c.dp

def kids (s : Nat) (b : List Int) : List (List Int) := ([0, 1].filter fun h => decide (b.count h < s)).map fun h => b ++ [h]
def grow (s : Nat) (ws : List (List Int)) : List (List Int) := ws.flatMap (kids s)
def lvl (s : Nat) : Nat → List (List Int)
  | 0 => [[]]
  | k + 1 => grow s (lvl s k)
def lvlOk (s k : Nat) : Bool := match lvl s k with
  | [] => false
  | b :: r => b.length == k && decide (r.length < 1000)
theorem lvl_ok : ∀ d < 4, ∀ k < 4 * d + 1, lvlOk (2 * d) k = true := by decide +kernel
theorem lvl_many : ∀ d < 4, ([1, 6, 70, 924] : List Int)[d]? = some ((lvl (2 * d) (4 * d)).length : Int) := by decide +kernel
theorem lvl_head {d k : Nat} (hd : d < 4) (hk : k < 4 * d + 1) : ∃ b r, lvl (2 * d) k = b :: r ∧ b.length = k ∧ r.length < 1000 := by
  have h := lvl_ok d hd k hk
  unfold lvlOk at h
  split at h
  · cases h
  · rename_i b r e
    rw [Bool.and_eq_true] at h
    exact ⟨b, r, e, by simpa using h.1, of_decide_eq_true h.2⟩
theorem kids_len (s : Nat) (b : List Int) : (kids s b).length ≤ 2 := by
  unfold kids
  rw [List.length_map]
  exact List.length_filter_le _ _
theorem grow_len (s : Nat) : ∀ ws, (grow s ws).length ≤ 2 * ws.length
  | [] => Nat.le_refl _
  | b :: r => by
    have h1 := kids_len s b
    have h2 := grow_len s r
    have e : grow s (b :: r) = kids s b ++ grow s r := rfl
    rw [e, List.length_append, List.length_cons]
    omega
theorem grow_take {s : Nat} {ws : List (List Int)} {i : Nat} {b : List Int} (h : ws[i]? = some b) : grow s (ws.take (i + 1)) = grow s (ws.take i) ++ kids s b := by
  rw [List.take_add_one, h]
  unfold grow
  rw [List.flatMap_append]
  simp
structure Txt2W (K : PySem.W.Frag) (mg : Str → Option Value) : Prop where
  two : ∃ t, mg "STEPS" = some (.int 2 t)
  three : ∃ t, mg "MOST_WOVEN" = some (.int 3 t)
  hands : ∃ hA, mg "HANDS" = some (.ref hA) ∧ ∀ H, SqT K H hA [.int 0, .int 1]
def spWeav (K : PySem.W.Frag) : Sp := fun vs H Q _ => ∃ (d : Nat), vs = [.int (d : Int)] ∧ d < 4 ∧
  ∀ (p : Addr) (rs : List Addr) (H' : Hp), Same H H' → H p = none → H' p = some (.lst (rs.map V.ref)) → RowsOf H H' rs (lvl (2 * d) (4 * d)) → Q (.ref p) H'
def kidsTo (s : Nat) (b : List Int) (j : Nat) : List (List Int) := ((([0, 1] : List Int).take j).filter fun h => decide (b.count h < s)).map fun h => b ++ [h]
theorem kidsTo_len (s : Nat) (b : List Int) (j : Nat) : (kidsTo s b j).length ≤ 2 := by
  unfold kidsTo
  rw [List.length_map]
  refine Nat.le_trans (List.length_filter_le _ _) ?_
  rw [List.length_take]
  exact Nat.min_le_right _ _
theorem kidsTo_yes {s : Nat} {b : List Int} {j : Nat} {h : Int} (e : ([0, 1] : List Int)[j]? = some h) (c : b.count h < s) : kidsTo s b (j + 1) = kidsTo s b j ++ [b ++ [h]] := by
  unfold kidsTo
  rw [List.take_add_one, e, List.filter_append, List.map_append]
  simp [c]
theorem kidsTo_no {s : Nat} {b : List Int} {j : Nat} {h : Int} (e : ([0, 1] : List Int)[j]? = some h) (c : ¬ b.count h < s) : kidsTo s b (j + 1) = kidsTo s b j := by
  unfold kidsTo
  rw [List.take_add_one, e, List.filter_append, List.map_append]
  simp [c]
theorem lvl_row (s : Nat) : ∀ k, ∀ b ∈ lvl s k, b.length = k
  | 0 => fun b h => by
    have e : b = [] := by simpa [lvl] using h
    rw [e]
    rfl
  | k + 1 => fun b h => by
    obtain ⟨c, hc, hb⟩ := List.mem_flatMap.mp (show b ∈ (lvl s k).flatMap (kids s) from h)
    unfold kids at hb
    obtain ⟨x, _, rfl⟩ := List.mem_map.mp hb
    rw [List.length_append, lvl_row s k c hc]
    rfl
section
variable {P : Program} {w : World} {K : PySem.W.Frag} {mg : Str → Option Value} {base : Heap}
abbrev nWeav : List Str := ["rounds", "steps", "woven", "begun", "hand"]
theorem scWeav : FnScope nWeav ["rounds"] (defScope sWeav) := ⟨rfl, rfl, rfl, by decide +kernel, rfl, by decide +kernel, by decide +kernel⟩
theorem ok_weav {f g : Addr} {fd gd : FuncData} (F : Fun K "weavings" "weavings" sWeav f fd) (T : Txt K mg) (U : Txt2W K mg) (G : FnOk P w K mg base CX0 2 g gd ["thing", "least", "most"] spWithin) (bG : Binds K gd ["thing", "least", "most"] []) (kG : PySem.W.keepIn K (.ref g) = true) (mG : mg "is_whole_within" = some (.ref g)) :
    FnOk P w K mg base CX0 3 f fd ["rounds"] (spWeav K) := by
  refine F.ok scWeav (fun vs H Q E h => ?_) (fun cdv A outer s H vs Q E hr h => ?_)
  · obtain ⟨d, rfl, _⟩ := h
    rfl
  obtain ⟨d, rfl, hd, q⟩ := h
  obtain ⟨t2, m2⟩ := U.two
  obtain ⟨t3, m3⟩ := U.three
  obtain ⟨hA, mH, hH⟩ := U.hands
  have nd := scWeav.nd
  refine ⟨_, pss_cons (ps_if (pt_not (pt_val (pe_call G hr rfl mG kG bG .nil pass0 (pa_cons (pv 0) (pa_cons pe_int (pa_cons (pe_glob (v := .int 3) rfl m3 ⟨_, rfl⟩) pa_nil)))))) pss_never pss_nil)
    (pss_cons (ps_set (i := 1) nd rfl (Or.inr rfl) (pe_op op_mul (pe_glob (v := .int 2) rfl m2 ⟨_, rfl⟩) (pv 0)))
    (pss_cons (ps_set (i := 2) nd rfl (Or.inl rfl) (pe_lst (pa_cons (pe_lst pa_nil) pa_nil)))
    (pss_cons (ps_while PassesOwn.never (pt_cmpR op_lt (pe_callB call_len_seq (by rfl) T.len PySem.boot_len (pa_cons (pe_ix ix_list (pv 2) pe_int (fun _ _ => rfl)) pa_nil)) (pe_op op_mul (pv 1) (pe_callB call_len_seq (by rfl) T.len PySem.boot_len (pa_cons (pe_glob (v := .ref hA) rfl mH rfl) pa_nil))) (nomark _))
        (pss_one (ps_setLc2 (i := 2) (own := [("begun", 3), ("hand", 4)]) (vs1 := [4]) (wi1 := iTup K (tC (.ref hA))) (tt1 := tTest (tOp (rI0 fun i j => .bl (decide (i < j))) (tBM K "list" (rCntI K) (tVar 3) (tCons (tVar 4) tNil)) (tVar 1))) rfl nd rfl rfl (sw_true rfl rfl rfl (by decide +kernel)) (pi_list (pv 2)) (blkOk_by (N := nWeav) (sc := defScope sWeav) (by decide +kernel)) (by decide)
          (fun _ _ _ _ _ => pg_name (i := 3) nd rfl (Or.inl rfl)) (fun _ _ _ _ _ => pts_nil) (fun _ _ _ _ _ => (by refine pi_tup ?_; exact pe_glob (v := .ref hA) rfl mH rfl)) (fun _ _ _ _ _ => pg_name (i := 4) nd rfl (Or.inl rfl))
          (fun _ _ _ _ _ => (by refine pts_one ?_; refine pt_cmpR op_lt ?_ (pv 1) (nomark _); exact pe_bm PySem.F.plainAttrs_list PySem.F.slot_list_count PySem.F.type_list_count mt_lcount (pv 3) (pa_cons (pv 4) pa_nil)))
          (fun _ _ _ _ _ => pe_op op_cat (pv 3) (pe_lst (pa_cons (pv 4) pa_nil))))))
    (pss_one (ps_ret (pv 2)))))), ?_⟩
  refine ⟨_, rfl, (d : Int), 0, 3, rfl, ?_⟩
  have e3 : decide ((0 : Int) ≤ (d : Int) ∧ (d : Int) ≤ 3) = true := decide_eq_true (by omega)
  refine ⟨true, congrArg V.bl e3, ?_⟩
  refine iteF ?_
  refine ⟨_, rfl, _, _, rfl, rfl, .inl ⟨by decide, by decide⟩, ?_⟩
  refine ⟨Nat.zero_le _, fun p0 h0 => ⟨(by show 1 ≤ sizeLine; decide), fun p hp => ?_⟩⟩
  refine ⟨fun m σ Hc => ∃ (k : Nat) (p : Addr) (rs : List Addr), m = 4 * d - k ∧ k ≤ 4 * d ∧ σ = [some (.int (d : Int)), some (.int (2 * (d : Int))), some (.ref p), none, none] ∧ Same H Hc ∧ H p = none ∧ Hc p = some (.lst (rs.map V.ref)) ∧ RowsOf H Hc rs (lvl (2 * d) k), ⟨4 * d, 0, p, [p0], rfl, Nat.zero_le _, rfl, ?_⟩, ?_⟩
  · have s0 := same_new h0 (.lst [])
    exact ⟨s0.trans (same_new hp _), s0.free hp, upd_same, .cons h0 (by rw [upd_ne (ne_of_none upd_same hp), upd_same]; rfl) .nil⟩
  rintro m σ Hc ⟨k, p, rs, rfl, hk, rfl, sc, hp0, hL, hR⟩
  obtain ⟨b0, rr, e0, hb0, hrr⟩ := lvl_head hd (k := k) (by omega)
  obtain ⟨r0, rs', rfl, hr0⟩ : ∃ r0 rs', rs = r0 :: rs' ∧ Hc r0 = some (.lst (b0.map V.int)) := by
    rw [e0] at hR
    cases hR with
    | cons _ h2 _ => exact ⟨_, _, rfl, h2⟩
  refine ⟨_, rfl, p, _, _, .ref r0, rfl, rfl, SqL.of hL, (by show atI _ ((0 : Nat) : Int) = _; exact atI_nat rfl), r0, _, rfl, .inl (SqL.of hr0), _, rfl, hA, _, rfl, .inr (hH _), _, _, rfl, rfl, .inr ⟨by decide, by decide⟩, _, _, rfl, rfl, _, rfl, ?_⟩
  refine ite2 (fun c => ?_) (fun c => ?_)
  · have c' : (((b0.map V.int).length : Nat) : Int) < 2 * (d : Int) * 2 := of_decide_eq_true c
    rw [List.length_map, hb0] at c'
    refine ⟨fun σ H' => ∃ (p : Addr) (rs : List Addr), σ = [some (.int (d : Int)), some (.int (2 * (d : Int))), some (.ref p), none, none] ∧ Same H H' ∧ H p = none ∧ H' p = some (.lst (rs.map V.ref)) ∧ RowsOf H H' rs (lvl (2 * d) (k + 1)),
      fun σ' H' ⟨p', rs2, h1, h2, h3, h4, h5⟩ => ⟨4 * d - (k + 1), by omega, k + 1, p', rs2, rfl, by omega, h1, h2, h3, h4, h5⟩, ?_⟩
    refine ⟨_, rfl, p, rfl, ⟨_, SqL.of hL⟩, fun D hD => ?_⟩
    have hwl : (lvl (2 * d) k).length ≤ 1000 := by rw [e0, List.length_cons]; omega
    refine list_turns (xs := (r0 :: rs').map V.ref) (fun i H2 => Same Hc H2 ∧ ∃ acc : List Addr, H2 D = some (.lst (acc.map V.ref)) ∧ RowsOf (upd Hc D (.lst [])) H2 acc (grow (2 * d) ((lvl (2 * d) k).take i))) ?_ ?_ ?_ ?_
    · exact ⟨same_new hD _, [], upd_same, .nil⟩
    · rintro i H2 _ ⟨s, _⟩
      exact SqL.of (s _ _ hL)
    · rintro i x H2 hx ⟨s, acc, hacc, hacR⟩
      obtain ⟨r, b, rfl, hb, _, hr1⟩ := hR.get hx
      refine ⟨rfl, hA, rfl, ⟨_, hH _⟩, ?_⟩
      refine tup_turns (xs := [V.int 0, V.int 1]) (fun j H3 => Same Hc H3 ∧ ∃ acc : List Addr, H3 D = some (.lst (acc.map V.ref)) ∧ RowsOf (upd Hc D (.lst [])) H3 acc (grow (2 * d) ((lvl (2 * d) k).take i) ++ kidsTo (2 * d) b j)) ?_ ?_ ?_ ?_
      · exact ⟨s, acc, hacc, by rw [show kidsTo (2 * d) b 0 = [] from rfl, List.append_nil]; exact hacR⟩
      · intro j H3 _ _
        exact hH _
      · rintro j y H3 hy ⟨s3, acc3, hacc3, hR3⟩
        obtain ⟨h, rfl, hh⟩ : ∃ h : Int, y = .int h ∧ ([0, 1] : List Int)[j]? = some h := by
          rcases j with _ | _ | j
          · exact ⟨0, by simpa using hy.symm, rfl⟩
          · exact ⟨1, by simpa using hy.symm, rfl⟩
          · simp at hy
        have hr3 := s3 _ _ hr1
        have hbl := lvl_row _ _ b (List.mem_of_getElem? hb)
        have hil : i < (lvl (2 * d) k).length := (List.getElem?_eq_some_iff.mp hb).1
        have hal : acc3.length ≤ 3000 := by
          have h1 := hR3.len
          have h2 := grow_len (2 * d) ((lvl (2 * d) k).take i)
          have h3 := kidsTo_len (2 * d) b j
          rw [List.length_append] at h1
          rw [List.length_take] at h2
          omega
        refine ⟨rfl, _, rfl, .inl ⟨rfl, _, SqL.of hr3⟩, _, rfl, r, b, h, rfl, rfl, SqL.of hr3, _, rfl, _, _, rfl, rfl, _, rfl, ?_⟩
        refine ite2 (fun c2 => ?_) (fun c2 => ?_)
        · have c3 : ((b.count h : Nat) : Int) < 2 * (d : Int) := of_decide_eq_true c2
          refine ⟨_, rfl, _, rfl, (by show 1 ≤ sizeLine; decide), fun q1 h1 => ?_⟩
          have t1 := same_new h1 (.lst [.int h])
          refine ⟨r, q1, _, _, rfl, rfl, t1 _ _ hr3, upd_same, (by rw [List.length_map]; exact small13 (by show b.length + 1 ≤ _; omega)), fun q2 h2 => ?_⟩
          have t2 := t1.trans (same_new h2 (.lst (b.map V.int ++ [V.int h])))
          have n2 : D ≠ q2 := ne_of_none (t1 _ _ hacc3) h2
          refine ⟨_, t2 _ _ hacc3, (by rw [List.length_map]; exact Nat.lt_of_le_of_lt hal (by decide)), fun b' o e => ?_, acc3 ++ [q2], ?_, ?_⟩
          · rw [upd_ne (ne_of_none e hD)]
            exact t2 _ _ (s3 _ _ e)
          · rw [upd_same, List.map_append]
            all_goals rfl
          · rw [kidsTo_yes hh (by omega), ← List.append_assoc]
            refine RowsOf.snoc ((hR3.mono t2).updD upd_same) ?_ ?_
            · rw [upd_ne n2.symm]
              exact s3.free (t1.free h2)
            · rw [upd_ne n2.symm, upd_same, List.map_append]
              all_goals rfl
        · have c3 : ¬ ((b.count h : Nat) : Int) < 2 * (d : Int) := of_decide_eq_false (Bool.eq_false_iff.mpr c2)
          exact ⟨s3, acc3, hacc3, by rw [kidsTo_no hh (by omega)]; exact hR3⟩
      · rintro H3 ⟨s3, acc3, hacc3, hR3⟩
        refine ⟨s3, acc3, hacc3, ?_⟩
        rw [grow_take hb]
        exact hR3
    · rintro H2 ⟨s, acc, hacc, hacR⟩
      rw [List.length_map, hR.len, List.take_length] at hacR
      exact ⟨D, acc, rfl, sc.trans s, sc.free hD, hacc, hacR.back (sc.trans (same_new hD _))⟩
  · have c' : ¬ (((b0.map V.int).length : Nat) : Int) < 2 * (d : Int) * 2 := of_decide_eq_false (Bool.eq_false_iff.mpr c)
    rw [List.length_map, hb0] at c'
    have ek : k = 4 * d := by omega
    subst ek
    exact ⟨_, rfl, q p _ _ sc hp0 hL hR⟩
end
end TA

set_option Elab.async false
set_option maxRecDepth 100000
set_option maxHeartbeats 4000000
namespace TA
open PySem L2 PyProof.Rows
set_option linter.unusedVariables false
theorem stand_range : ∀ {r : Nat} {d : PyData} {h : Nat} {u : Stands}, h < 2 → stand r d h = some u → 0 ≤ u.1 ∧ u.1 ≤ 3 ^ r ∧ u.1 % 2 = (h : Int)
  | 0, d, h, u, hh, e => by
    obtain ⟨i, rfl, hi, rfl⟩ := stand0 e
    obtain rfl | rfl : h = 0 ∨ h = 1 := by omega
    · exact ⟨(by show (0 : Int) ≤ 0; decide), (by show (0 : Int) ≤ 3 ^ 0; decide), rfl⟩
    · exact ⟨(by show (0 : Int) ≤ 1; decide), (by show (1 : Int) ≤ 3 ^ 0; decide), rfl⟩
  | r + 1, d, h, u, hh, e => by
    obtain ⟨x, y, u0, rfl, e0, e1⟩ := standS e
    obtain ⟨a1, a2, a3⟩ := stand_range hh e0
    have p3 : (3 : Int) ^ (r + 1) = 3 * 3 ^ r := by rw [Int.pow_succ]; omega
    rcases e1 with ⟨_, rfl⟩ | ⟨_, v, ev, em⟩
    · refine ⟨?_, ?_, ?_⟩
      · show 0 ≤ 3 * u0.1; omega
      · show 3 * u0.1 ≤ _; omega
      · show 3 * u0.1 % 2 = _; omega
    · obtain ⟨b1, b2, b3⟩ := stand_range (show 1 - h < 2 by omega) ev
      obtain ⟨n1, _, _, rfl⟩ := metD_some em
      refine ⟨?_, ?_, ?_⟩
      · show 0 ≤ 3 * u0.1 + 2 * (v.1 - u0.1); omega
      · show 3 * u0.1 + 2 * (v.1 - u0.1) ≤ _; omega
      · show (3 * u0.1 + 2 * (v.1 - u0.1)) % 2 = _; omega
/-- the other hand's input in it -/
def oth (h : Nat) (u : Stands) : Option Int := if h = 0 then u.2.2 else u.2.1
def mine (h : Nat) (u : Stands) : Option Int := if h = 0 then u.2.1 else u.2.2
theorem mine_some {r : Nat} {d : PyData} {h : Nat} {u : Stands} (hh : h < 2) (e : stand r d h = some u) : ∃ a, mine h u = some a := by
  obtain ⟨a, h0, h1, _⟩ := stand_own (r := r) (d := d)
  obtain rfl | rfl : h = 0 ∨ h = 1 := by omega
  · exact ⟨a, (h0 _ e).1⟩
  · exact ⟨a, (h1 _ e).1⟩
theorem ends_of {r : Nat} {d : PyData} {h : Nat} {u : Stands} (hh : h < 2) (e : stand r d h = some u) (o : oth h u = none) : u.1 = 0 ∨ u.1 = 3 ^ r := by
  obtain ⟨a, h0, h1, _⟩ := stand_own (r := r) (d := d)
  obtain rfl | rfl : h = 0 ∨ h = 1 := by omega
  · exact .inl ((h0 _ e).2 o)
  · exact .inr ((h1 _ e).2 o)
theorem fst2_some {a b : Option Int} {x : Int} (e : b = some x) : ∃ y, fst2 a b = some y := by
  cases a with
  | none => exact ⟨x, e⟩
  | some z => exact ⟨z, rfl⟩
theorem met_oth {h : Nat} (hh : h < 2) {r : Nat} {y : PyData} {u0 v u : Stands} (ev : stand r y (1 - h) = some v) (em : metD u0 v = some u) : ∃ z, oth h u = some z := by
  obtain ⟨_, _, _, rfl⟩ := metD_some em
  obtain ⟨b, eb⟩ := mine_some (show 1 - h < 2 by omega) ev
  obtain rfl | rfl : h = 0 ∨ h = 1 := by omega
  · exact fst2_some (a := u0.2.2) eb
  · exact fst2_some (a := u0.2.1) eb
theorem of_ends : ∀ {r : Nat} {d : PyData} {h : Nat} {u : Stands}, h < 2 → stand r d h = some u → (u.1 = 0 ∨ u.1 = 3 ^ r) → oth h u = none
  | 0, d, h, u, hh, e, _ => by
    obtain ⟨i, rfl, hi, rfl⟩ := stand0 e
    obtain rfl | rfl : h = 0 ∨ h = 1 := by omega
    · rfl
    · rfl
  | r + 1, d, h, u, hh, e, q => by
    obtain ⟨x, y, u0, rfl, e0, e1⟩ := standS e
    obtain ⟨a1, a2, a3⟩ := stand_range hh e0
    have p3 : (3 : Int) ^ (r + 1) = 3 * 3 ^ r := by rw [Int.pow_succ]; omega
    rcases e1 with ⟨_, rfl⟩ | ⟨_, v, ev, em⟩
    · refine of_ends (u := u0) hh e0 ?_
      have q' : 3 * u0.1 = 0 ∨ 3 * u0.1 = 3 ^ (r + 1) := q
      omega
    · exfalso
      obtain ⟨b1, b2, b3⟩ := stand_range (show 1 - h < 2 by omega) ev
      obtain ⟨n1, _, _, rfl⟩ := metD_some em
      have q' : 3 * u0.1 + 2 * (v.1 - u0.1) = 0 ∨ 3 * u0.1 + 2 * (v.1 - u0.1) = 3 ^ (r + 1) := q
      omega
def plainD : Nat → PyData → Bool
  | r + 1, .tuple [x, y] => isN y && plainD r x
  | _, _ => true
theorem plain_eq : ∀ {r : Nat} {d : PyData} {h : Nat} {u : Stands}, h < 2 → stand r d h = some u → plainD r d = (oth h u).isNone
  | 0, d, h, u, hh, e => by
    obtain ⟨i, rfl, hi, rfl⟩ := stand0 e
    obtain rfl | rfl : h = 0 ∨ h = 1 := by omega
    · rfl
    · rfl
  | r + 1, d, h, u, hh, e => by
    obtain ⟨x, y, u0, rfl, e0, e1⟩ := standS e
    have ih := plain_eq hh e0
    rcases e1 with ⟨c, rfl⟩ | ⟨c, v, ev, em⟩
    · show (isN y && plainD r x) = _
      rw [c, ih]
      rfl
    · obtain ⟨z, ez⟩ := met_oth hh ev em
      show (isN y && plainD r x) = _
      rw [c, ez]
      rfl
def has (o : Int) : Nat → PyData → Bool
  | _, .int i => decide (i = o)
  | n + 1, .tuple [x, y] => has o n x || has o n y
  | _, _ => false
def Tr : Nat → PyData → Prop
  | 0, d => (∃ i, d = .int i) ∨ d = .none
  | n + 1, d => (∃ i, d = .int i) ∨ d = .none ∨ ∃ x y, d = .tuple [x, y] ∧ Tr n x ∧ Tr n y
theorem stand_tr : ∀ {r : Nat} {d : PyData} {h : Nat} {u : Stands}, stand r d h = some u → Tr r d
  | 0, d, h, u, e => by
    obtain ⟨i, rfl, _⟩ := stand0 e
    exact .inl ⟨i, rfl⟩
  | r + 1, d, h, u, e => by
    obtain ⟨x, y, u0, rfl, e0, e1⟩ := standS e
    refine .inr (.inr ⟨x, y, rfl, stand_tr e0, ?_⟩)
    rcases e1 with ⟨c, _⟩ | ⟨_, v, ev, _⟩
    · have : y = .none := by
        cases y <;> first | rfl | cases c
      subst this
      cases r with
      | zero => exact .inr rfl
      | succ r => exact .inr (.inl rfl)
    · exact stand_tr ev
theorem Tr.ok : ∀ {n : Nat} {d : PyData}, Tr n d → Ok (n + 1) d
  | 0, d, t => by
    rcases t with ⟨i, rfl⟩ | rfl
    · exact ok_int i (by decide)
    · exact ok_none (by decide)
  | n + 1, d, t => by
    rcases t with ⟨i, rfl⟩ | rfl | ⟨x, y, rfl, a, b⟩
    · exact ok_int i (by omega)
    · exact ok_none (by omega)
    · exact a.ok.pair b.ok
theorem has_none (o : Int) (n : Nat) : has o n .none = false := by cases n <;> rfl
theorem inp_split {x y : Int} {r : Nat} {a b : PyData} {h : Nat} {u0 v : Stands} (hh : h < 2) (e0 : stand r a h = some u0) (ev : stand r b (1 - h) = some v) (g2 : agr u0.2.1 v.2.1 = true) (g3 : agr u0.2.2 v.2.2 = true) {j : Int} (i : inp x y h (j, fst2 u0.2.1 v.2.1, fst2 u0.2.2 v.2.2)) : inp x y h u0 ∧ inp x y (1 - h) v := by
  obtain ⟨p, ep⟩ := mine_some hh e0
  obtain ⟨q, eq⟩ := mine_some (show 1 - h < 2 by omega) ev
  obtain ⟨i1, i2⟩ := i
  obtain rfl | rfl : h = 0 ∨ h = 1 := by omega
  · have ep' : u0.2.1 = some p := ep
    have eq' : v.2.2 = some q := eq
    have i1' : fst2 u0.2.1 v.2.1 = some x := by
      rcases i1 with z | ⟨z, _⟩
      · exact z
      · cases z
    have i2' : fst2 u0.2.2 v.2.2 = some y := by
      obtain ⟨w, ew⟩ := fst2_some (a := u0.2.2) eq'
      rcases i2 with z | ⟨_, z⟩
      · exact z
      · rw [ew] at z; cases z
    rw [ep'] at i1'
    cases i1'
    refine ⟨⟨.inl ep', ?_⟩, ⟨?_, ?_⟩⟩
    · cases e : u0.2.2 with
      | none => exact .inr ⟨rfl, rfl⟩
      | some w => rw [e] at i2'; exact .inl i2'
    · cases e : v.2.1 with
      | none => exact .inr ⟨rfl, rfl⟩
      | some w =>
        rw [ep', e] at g2
        have : x = w := of_decide_eq_true g2
        exact .inl (by rw [this])
    · left
      cases e : u0.2.2 with
      | none => rw [e] at i2'; exact i2'
      | some w =>
        rw [e] at i2'
        cases i2'
        rw [e, eq'] at g3
        have : y = q := of_decide_eq_true g3
        rw [eq', this]
  · have ep' : u0.2.2 = some p := ep
    have eq' : v.2.1 = some q := eq
    have i2' : fst2 u0.2.2 v.2.2 = some y := by
      rcases i2 with z | ⟨z, _⟩
      · exact z
      · cases z
    have i1' : fst2 u0.2.1 v.2.1 = some x := by
      obtain ⟨w, ew⟩ := fst2_some (a := u0.2.1) eq'
      rcases i1 with z | ⟨_, z⟩
      · exact z
      · rw [ew] at z; cases z
    rw [ep'] at i2'
    cases i2'
    refine ⟨⟨?_, .inl ep'⟩, ⟨?_, ?_⟩⟩
    · cases e : u0.2.1 with
      | none => exact .inr ⟨rfl, rfl⟩
      | some w => rw [e] at i1'; exact .inl i1'
    · left
      cases e : u0.2.1 with
      | none => rw [e] at i1'; exact i1'
      | some w =>
        rw [e] at i1'
        cases i1'
        rw [e, eq'] at g2
        have : x = q := of_decide_eq_true g2
        rw [eq', this]
    · cases e : v.2.2 with
      | none => exact .inr ⟨rfl, rfl⟩
      | some w =>
        rw [ep', e] at g3
        have : y = w := of_decide_eq_true g3
        exact .inl (by rw [this])
/-- an input of the other hand stands in what is known just where it was met -/
theorem has_eq {x y : Int} (ne : x ≠ y) : ∀ {r : Nat} {d : PyData} {h : Nat} {u : Stands}, h < 2 → stand r d h = some u → inp x y h u → has x r d = u.2.1.isSome ∧ has y r d = u.2.2.isSome
  | 0, d, h, u, hh, e, i => by
    obtain ⟨k, rfl, hi, rfl⟩ := stand0 e
    obtain rfl | rfl : h = 0 ∨ h = 1 := by omega
    · have : k = x := by
        rcases i.1 with q | ⟨q, _⟩
        · exact Option.some.inj q
        · cases q
      subst this
      exact ⟨decide_eq_true rfl, decide_eq_false ne⟩
    · have : k = y := by
        rcases i.2 with q | ⟨q, _⟩
        · exact Option.some.inj q
        · cases q
      subst this
      exact ⟨decide_eq_false ne.symm, decide_eq_true rfl⟩
  | r + 1, d, h, u, hh, e, i => by
    obtain ⟨a, b, u0, rfl, e0, e1⟩ := standS e
    rcases e1 with ⟨c, rfl⟩ | ⟨c, v, ev, em⟩
    · have : b = .none := by
        cases b <;> first | rfl | cases c
      subst this
      obtain ⟨p1, p2⟩ := has_eq ne hh e0 i
      refine ⟨?_, ?_⟩
      · show (has x r a || has x r .none) = _
        rw [has_none, p1, Bool.or_false]
      · show (has y r a || has y r .none) = _
        rw [has_none, p2, Bool.or_false]
    · obtain ⟨g1, g2, g3, rfl⟩ := metD_some em
      obtain ⟨i0, iv⟩ := inp_split hh e0 ev g2 g3 i
      obtain ⟨p1, p2⟩ := has_eq ne hh e0 i0
      obtain ⟨q1, q2⟩ := has_eq ne (show 1 - h < 2 by omega) ev iv
      refine ⟨?_, ?_⟩
      · show (has x r a || has x r b) = (fst2 u0.2.1 v.2.1).isSome
        rw [p1, q1]
        cases u0.2.1 <;> rfl
      · show (has y r a || has y r b) = (fst2 u0.2.2 v.2.2).isSome
        rw [p2, q2]
        cases u0.2.2 <;> rfl
/-- what stands at a place -/
def th (x y : Int) : Nat → Int → PyData
  | 0, j => if j = 0 then .int x else .int y
  | r + 1, j => if j % 3 = 0 then .tuple [th x y r (j / 3), .none] else if j % 3 = 2 then .tuple [th x y r (j / 3), th x y r (j / 3 + 1)] else .tuple [th x y r (j / 3 + 1), th x y r (j / 3)]
theorem th_eq {x y : Int} : ∀ {r : Nat} {d : PyData} {h : Nat} {u : Stands}, h < 2 → stand r d h = some u → inp x y h u → d = th x y r u.1
  | 0, d, h, u, hh, e, i => by
    obtain ⟨k, rfl, hi, rfl⟩ := stand0 e
    obtain rfl | rfl : h = 0 ∨ h = 1 := by omega
    · have : k = x := by
        rcases i.1 with q | ⟨q, _⟩
        · exact Option.some.inj q
        · cases q
      subst this
      rfl
    · have : k = y := by
        rcases i.2 with q | ⟨q, _⟩
        · exact Option.some.inj q
        · cases q
      subst this
      rfl
  | r + 1, d, h, u, hh, e, i => by
    obtain ⟨a, b, u0, rfl, e0, e1⟩ := standS e
    rcases e1 with ⟨c, rfl⟩ | ⟨c, v, ev, em⟩
    · have : b = .none := by
        cases b <;> first | rfl | cases c
      subst this
      have ea := th_eq hh e0 i
      show _ = (if 3 * u0.1 % 3 = 0 then _ else _)
      rw [if_pos (by omega), show 3 * u0.1 / 3 = u0.1 by omega, ← ea]
    · obtain ⟨g1, g2, g3, rfl⟩ := metD_some em
      obtain ⟨i0, iv⟩ := inp_split hh e0 ev g2 g3 i
      have ea := th_eq hh e0 i0
      have eb := th_eq (show 1 - h < 2 by omega) ev iv
      show _ = (if (3 * u0.1 + 2 * (v.1 - u0.1)) % 3 = 0 then _ else if (3 * u0.1 + 2 * (v.1 - u0.1)) % 3 = 2 then _ else _)
      rw [if_neg (by omega)]
      by_cases up : v.1 = u0.1 + 1
      · rw [if_pos (by omega), show (3 * u0.1 + 2 * (v.1 - u0.1)) / 3 = u0.1 by omega, ← up, ← ea, ← eb]
      · rw [if_neg (by omega), show (3 * u0.1 + 2 * (v.1 - u0.1)) / 3 = v.1 by omega, show v.1 + 1 = u0.1 by omega, ← ea, ← eb]
/-! the weavings of up to three rounds -/
def toN (xs : List Int) : List Nat := xs.map Int.toNat
def rowOk (d : Nat) (xs : List Int) : Bool := decide ((toN xs).map (fun n : Nat => (n : Int)) = xs) && ((toN xs).all (fun h => decide (h < 2)) && (decide ((toN xs).count 0 = 2 * d) && decide ((toN xs).count 1 = 2 * d)))
theorem rows_ok : ∀ d < 4, (lvl (2 * d) (4 * d)).all (rowOk d) = true := by decide +kernel
def minOf (xs : List Int) : Int := if (P0.run (toN xs)).cur 1 < (P0.run (toN xs)).cur 0 then (P0.run (toN xs)).cur 1 else (P0.run (toN xs)).cur 0
def wit : List (List Nat) := [[0], [0, 1, 5], [0, 3, 14, 24, 17, 15, 55, 56, 60], [0, 5, 27, 73, 66, 64, 195, 196, 200, 326, 322, 321, 246, 248, 255, 230, 214, 210, 714, 717, 728, 738, 731, 729, 769, 770, 774]]
def covB (d j : Nat) : Bool := match (lvl (2 * d) (4 * d))[(wit.getD d []).getD j 0]? with
  | some xs => decide (minOf xs = (j : Int))
  | none => false
theorem covers : ∀ d < 4, ∀ j < 3 ^ d, covB d j = true := by decide +kernel
end TA

set_option Elab.async false
set_option maxRecDepth 100000
set_option maxHeartbeats 4000000
namespace TA
open PySem L2 PyProof.Rows
set_option linter.unusedVariables false
theorem KnAll.dp {K : PySem.W.Frag} {H : Hp} : ∀ {vs ds}, KnAll H vs ds → DpAll K H vs ds
  | _, _, .nil => .nil
  | _, _, .cons a b => .cons a.dp b.dp
theorem KnAll.unsnoc {H : Hp} {d : PyData} : ∀ {ds : List PyData} {vs : List V}, KnAll H vs (ds ++ [d]) → ∃ vs0 v, vs = vs0 ++ [v] ∧ KnAll H vs0 ds ∧ Kn H v d
  | [], _, h => by
    cases h with
    | cons a b => cases b; exact ⟨[], _, rfl, .nil, a⟩
  | e :: ds, _, h => by
    cases h with
    | cons a b =>
      obtain ⟨vs0, v, rfl, k1, k2⟩ := KnAll.unsnoc b
      exact ⟨_ :: vs0, v, rfl, .cons a k1, k2⟩
theorem all_ok {n : Nat} : ∀ {ds : List PyData}, (∀ d ∈ ds, Ok n d) → PyData.canLayAll0 ds = true ∧ PyData.depthAll ds ≤ n
  | [], _ => ⟨rfl, by simp [PyData.depthAll]⟩
  | d :: ds, q => by
    obtain ⟨a, b⟩ := all_ok (ds := ds) (fun x hx => q x (List.mem_cons_of_mem _ hx))
    obtain ⟨c, e⟩ := q d List.mem_cons_self
    refine ⟨by simp [PyData.canLayAll0, a, c], ?_⟩
    simp only [PyData.depthAll]
    omega
theorem list_shaped {n : Nat} {ds : List PyData} (q : ∀ d ∈ ds, Ok n d) (hn : n ≤ 60) : SeqAt.shaped (.list ds) = true := by
  obtain ⟨a, b⟩ := all_ok q
  refine Ok.shaped ⟨by simpa [PyData.canLay0] using a, ?_⟩
  simp only [PyData.depth]
  omega
def wsum (L : List (PyData × Nat)) : Nat := (L.map fun p => 3 ^ p.2).sum
theorem wsum_snoc (L : List (PyData × Nat)) (p : PyData × Nat) : wsum (L ++ [p]) = wsum L + 3 ^ p.2 := by
  unfold wsum
  rw [List.map_append, List.sum_append]
  simp
theorem wsum_len : ∀ L : List (PyData × Nat), L.length ≤ wsum L
  | [] => Nat.le_refl _
  | p :: L => by
    have := wsum_len L
    have h1 : 1 ≤ 3 ^ p.2 := Nat.one_le_pow _ _ (by decide)
    show L.length + 1 ≤ 3 ^ p.2 + wsum L
    omega
def spPlain : Sp := fun vs H Q _ => ∃ (v : V) (d : PyData) (r h : Nat) (u : Stands), vs = [v] ∧ Kn H v d ∧ stand r d h = some u ∧ Q (.bl (plainD r d)) H
def spMetL : Sp := fun vs H Q _ => ∃ (v : V) (d : PyData) (r : Nat) (o : Int), vs = [v, .int o] ∧ Kn H v d ∧ Tr r d ∧ r ≤ 6 ∧ ∀ H', Same H H' → Q (.bl (has o r d)) H'
section
variable {P : Program} {w : World} {K : PySem.W.Frag} {mg : Str → Option Value} {base : Heap}
theorem scPlain : FnScope ["_law_thing"] ["_law_thing"] (defScope s__law_plain) := ⟨rfl, rfl, rfl, by decide +kernel, rfl, by decide +kernel, by decide +kernel⟩
theorem ok_plain {f : Addr} {fd : FuncData} (F : Fun K "_law_plain" "_law_plain" s__law_plain f fd) (T : Txt K mg) : FnOk P w K mg base CX0 1 f fd ["_law_thing"] spPlain := by
  refine F.ok scPlain (fun vs H Q E h => ?_) (fun cdv A outer s H vs Q E hr h => ?_)
  · obtain ⟨v, d, r, h, u, rfl, _⟩ := h
    rfl
  obtain ⟨v, d, r, h, u, rfl, hk, hu, q⟩ := h
  have nd := scPlain.nd
  refine ⟨_, (pss_cons (ps_while PassesOwn.never (pt_val (pe_callB call_isi (by rfl) T.isi boot_isinstance (pa_cons (pv 0) (pa_cons (pe_bltn (v := .ty "tuple") (by rfl) T.tuple boot_tuple rfl) pa_nil))))
      (pss_cons (ps_if (pt_cmpR op_notN (pe_ix ix_tup (pv 0) pe_int (fun _ _ => rfl)) pe_non (nomark _))
      (pss_one (ps_ret pe_bl))
      pss_nil)
    (pss_one (ps_set (i := 0) nd rfl (Or.inl rfl) (pe_ix ix_tup (pv 0) pe_int (fun _ _ => rfl))))))
    (pss_one (ps_ret pe_bl))), ?_⟩
  refine ⟨fun m σ H' => ∃ (v' : V) (d' : PyData) (h' : Nat) (u' : Stands), σ = [some v'] ∧ H' = H ∧ Kn H v' d' ∧ stand m d' h' = some u' ∧ plainD r d = plainD m d', ⟨r, v, d, h, u, rfl, rfl, hk, hu, rfl⟩, ?_⟩
  rintro m σ H' ⟨v', d', h', u', rfl, rfl, hk', hu', he⟩
  cases m with
  | zero =>
    obtain ⟨i, rfl, _⟩ := stand0 hu'
    cases hk'
    refine ⟨_, rfl, V.int i, V.ty "tuple", _, _, false, rfl, .ty "tuple", .base (.int i), kit_ty (by decide +kernel), false, rfl, iteF ?_⟩
    rw [he] at q
    exact q
  | succ m =>
    obtain ⟨x, y, u0, rfl, e0, e1⟩ := standS hu'
    cases hk' with
    | @tup a x' y' _ _ ha hx hy =>
      refine ⟨_, rfl, V.ref a, V.ty "tuple", _, _, true, rfl, .ty "tuple", .base (.tup ha), kit_ty (by decide +kernel), true, rfl, iteT ?_⟩
      refine ⟨fun σ' H'' => ∃ m' < m + 1, ∃ (v' : V) (d' : PyData) (h' : Nat) (u' : Stands), σ' = [some v'] ∧ H'' = H' ∧ Kn H' v' d' ∧ stand m' d' h' = some u' ∧ plainD r d = plainD m' d', fun σ' H'' h => h, ?_⟩
      refine ⟨_, rfl, a, _, _, _, rfl, rfl, SqT.of ha, (by rfl), rfl, _, rfl, ?_⟩
      have yn := hy.isNon
      have he' : plainD r d = (isN y && plainD m x) := he
      cases cy : isN y with
      | true =>
        refine iteF' (by show (!decide (y' = .non)) = false; rw [yn, cy]; rfl) ?_
        rw [cy, Bool.true_and] at he'
        exact ⟨_, rfl, a, _, _, _, rfl, rfl, SqT.of ha, (by rfl), m, Nat.lt_succ_self _, x', x, h', u0, rfl, rfl, hx, e0, he'⟩
      | false =>
        refine iteT' (by show (!decide (y' = .non)) = true; rw [yn, cy]; rfl) ?_
        rw [cy, Bool.false_and] at he'
        rw [he'] at q
        exact q
abbrev nMetL : List Str := ["_law_thing", "_law_other", "_law_left", "_law_one_here"]
theorem scMetL : FnScope nMetL ["_law_thing", "_law_other"] (defScope s__law_met) := ⟨rfl, rfl, rfl, by decide +kernel, rfl, by decide +kernel, by decide +kernel⟩
theorem ok_metL {f : Addr} {fd : FuncData} (F : Fun K "_law_met" "_law_met" s__law_met f fd) (T : Txt K mg) : FnOk P w K mg base CX0 1 f fd ["_law_thing", "_law_other"] spMetL := by
  refine F.ok scMetL (fun vs H Q E h => ?_) (fun cdv A outer s H vs Q E hr h => ?_)
  · obtain ⟨v, d, r, o, rfl, _⟩ := h
    rfl
  obtain ⟨v, d, r, o, rfl, hk, ht, hr6, q⟩ := h
  have nd := scMetL.nd
  refine ⟨_, (pss_cons (ps_set (i := 2) nd rfl (Or.inl rfl) (pe_lst (pa_cons (pv 0) pa_nil)))
    (pss_cons (ps_while PassesOwn.never (pt_cmpR (op_neD hr.units) (pv 2) (pe_lst pa_nil) (nomark _))
      (pss_cons (ps_set (i := 3) nd rfl (Or.inl rfl) (pe_bm0 PySem.F.plainAttrs_list PySem.F.slot_list_pop PySem.F.type_list_pop mt_pop (pv 2)))
    (pss_one (ps_if (pt_val (pe_callB call_isi (by rfl) T.isi boot_isinstance (pa_cons (pv 3) (pa_cons (pe_bltn (v := .ty "tuple") (by rfl) T.tuple boot_tuple rfl) pa_nil))))
      (pss_one (ps_expr (pe_bm PySem.F.plainAttrs_list PySem.F.slot_list_extend PySem.F.type_list_extend mt_extend (pv 2) (pa_cons (pe_callTy call_list_of (by rfl) T.list boot_list (pa_cons (pv 3) pa_nil)) pa_nil))))
      (pss_one (ps_if (pt_cmpR op_eq (pv 3) (pv 1) (nomark _))
      (pss_one (ps_ret pe_bl))
      pss_nil))))))
    (pss_one (ps_ret pe_bl)))), ?_⟩
  refine ⟨_, rfl, (by show 1 ≤ sizeLine; decide), fun lf hlf => ?_⟩
  have s0 := same_new hlf (.lst [v])
  have start : wsum [(d, r)] ≤ 729 := by
    show 3 ^ r + 0 ≤ 729
    have : 3 ^ r ≤ 3 ^ 6 := Nat.pow_le_pow_right (by decide) hr6
    omega
  refine ⟨fun m σ Hc => ∃ (vs : List V) (L : List (PyData × Nat)) (g : Option V), m = wsum L ∧ m ≤ 729 ∧ σ = [some v, some (.int o), some (.ref lf), g] ∧ Same H Hc ∧ Hc lf = some (.lst vs) ∧ KnAll Hc vs (L.map (·.1)) ∧ (∀ p ∈ L, Tr p.2 p.1 ∧ p.2 ≤ 6) ∧ (L.any fun p => has o p.2 p.1) = has o r d, ⟨_, [v], [(d, r)], none, rfl, start, rfl, s0, upd_same, .cons (hk.mono (Tups.same s0)) .nil, ?_, ?_⟩, ?_⟩
  · intro p hp
    rw [List.mem_singleton.mp hp]
    exact ⟨ht, hr6⟩
  · show (has o r d || false) = _
    rw [Bool.or_false]
  rintro m σ Hc ⟨vs, L, g, rfl, hm, rfl, sc, hl0, hka, hL, hany⟩
  refine ⟨_, rfl, Nat.zero_le _, fun e he => ?_⟩
  have s1 := same_new he (.lst [])
  have hl1 := s1 _ _ hl0
  have hka1 := hka.mono (Tups.same s1)
  have shp : SeqAt.shaped (.list (L.map (·.1))) = true := list_shaped (n := 7) (fun x hx => by
    obtain ⟨p, hp, e⟩ := List.mem_map.mp hx
    subst e
    obtain ⟨a, b⟩ := hL p hp
    exact a.ok.up (by omega)) (by decide)
  refine ⟨.list (L.map (·.1)), .list [], .lst (SqL.of hl1) hka1.dp, .lst (SqL.of upd_same) .nil, shp, rfl, _, rfl, ?_⟩
  have sc1 := sc.trans s1
  generalize upd Hc e (.lst []) = H1 at hl1 hka1 sc1 ⊢
  rcases List.eq_nil_or_concat L with rfl | ⟨L0, p1, rfl⟩
  · refine iteF' rfl ?_
    have : has o r d = false := hany.symm
    rw [← this]
    exact q _ sc1
  refine iteT' (by show (!PyData.eqv (.list ((L0.concat p1).map (·.1))) (.list [])) = true; rw [List.concat_eq_append, List.map_append]; cases L0 <;> rfl) ?_
  rw [List.concat_eq_append] at hka1 hL hany hm
  rw [List.map_append] at hka1
  obtain ⟨vs0, v1, rfl, ka, k1⟩ := hka1.unsnoc
  rw [List.concat_eq_append]
  obtain ⟨t1, n6⟩ := hL p1 (List.mem_append_right _ List.mem_cons_self)
  have hL0 : ∀ p ∈ L0, Tr p.2 p.1 ∧ p.2 ≤ 6 := fun p hp => hL p (List.mem_append_left _ hp)
  rw [List.any_append] at hany
  have any1 : (L0.any fun p => has o p.2 p.1) = has o r d ∨ has o p1.2 p1.1 = true := by
    cases c : has o p1.2 p1.1 with
    | true => exact .inr rfl
    | false =>
      left
      rw [← hany]
      show _ = ((L0.any fun p => has o p.2 p.1) || (has o p1.2 p1.1 || false))
      rw [c, Bool.or_false, Bool.or_false]
  have lsz := wsum_len (L0 ++ [p1])
  rw [List.length_append] at lsz
  have lsz' : L0.length + 1 ≤ wsum (L0 ++ [p1]) := lsz
  have hws := wsum_snoc L0 p1
  have pos1 : 1 ≤ 3 ^ p1.2 := Nat.one_le_pow _ _ (by decide)
  have hlt : wsum L0 < wsum (L0 ++ [p1]) ∧ wsum L0 ≤ 729 := by omega
  have lva := ka.len
  rw [List.length_map] at lva
  refine ⟨fun σ' H'' => ∃ m' < wsum (L0 ++ [p1]), ∃ (vs : List V) (L : List (PyData × Nat)) (g : Option V), m' = wsum L ∧ m' ≤ 729 ∧ σ' = [some v, some (.int o), some (.ref lf), g] ∧ Same H H'' ∧ H'' lf = some (.lst vs) ∧ KnAll H'' vs (L.map (·.1)) ∧ (∀ p ∈ L, Tr p.2 p.1 ∧ p.2 ≤ 6) ∧ (L.any fun p => has o p.2 p.1) = has o r d, fun σ' H'' h => h, ?_⟩
  refine ⟨_, rfl, .inl ⟨rfl, _, SqL.of hl1⟩, lf, _, v1, rfl, rfl, hl1, (by rw [List.length_append]; simp), ?_⟩
  rw [List.dropLast_concat]
  have hl2 : (upd H1 lf (.lst vs0)) lf = some (.lst vs0) := upd_same
  have sc2 : Same H (upd H1 lf (.lst vs0)) := same_upd sc1 hlf
  have ka2 := ka.mono (Tups.updL hl1 (o := .lst vs0))
  have k12 := k1.mono (Tups.updL hl1 (o := .lst vs0))
  generalize upd H1 lf (.lst vs0) = H2 at hl2 sc2 ka2 k12 ⊢
  obtain ⟨d1, n1⟩ := p1
  rcases k12.ty (K := K) with ⟨i, rfl, ei⟩ | ⟨rfl, ei⟩ | ⟨a, x, y, e1, g1, rfl, ei, ha, hx, hy⟩
  · refine ⟨_, rfl, V.int i, V.ty "tuple", _, _, false, rfl, .ty "tuple", .base (.int i), kit_ty (by decide +kernel), false, rfl, iteF ?_⟩
    refine ⟨_, rfl, _, rfl, rfl, _, rfl, ?_⟩
    have ei' : d1 = .int i := ei
    subst ei'
    have hasi : has o n1 (.int i) = decide (i = o) := by cases n1 <;> rfl
    by_cases c : i = o
    · refine iteT' (decide_eq_true (by rw [c])) ?_
      have : has o r d = true := by
        rw [← hany]
        show ((L0.any fun p => has o p.2 p.1) || (has o n1 (.int i) || false)) = true
        rw [hasi, decide_eq_true c]
        simp
      rw [this] at q
      exact q _ sc2
    · refine iteF' (decide_eq_false (fun z => c (by injection z))) ?_
      rcases any1 with any1 | any1
      · exact ⟨wsum L0, hlt.1, vs0, L0, _, rfl, hlt.2, rfl, sc2, hl2, ka2, hL0, any1⟩
      · have any1' : has o n1 (.int i) = true := any1
        rw [hasi, decide_eq_false c] at any1'
        cases any1'
  · refine ⟨_, rfl, V.non, V.ty "tuple", _, _, false, rfl, .ty "tuple", .base .non, kit_ty (by decide +kernel), false, rfl, iteF ?_⟩
    refine ⟨_, rfl, _, rfl, rfl, _, rfl, ?_⟩
    have ei' : d1 = .none := ei
    subst ei'
    refine iteF' (decide_eq_false (fun z => by cases z)) ?_
    rcases any1 with any1 | any1
    · exact ⟨wsum L0, hlt.1, vs0, L0, _, rfl, hlt.2, rfl, sc2, hl2, ka2, hL0, any1⟩
    · have any1' : has o n1 .none = true := any1
      rw [has_none] at any1'
      cases any1'
  · have ei' : d1 = .tuple [e1, g1] := ei
    subst ei'
    obtain ⟨n', rfl, tx, ty⟩ : ∃ n', n1 = n' + 1 ∧ Tr n' e1 ∧ Tr n' g1 := by
      have t1' : Tr n1 (.tuple [e1, g1]) := t1
      cases n1 with
      | zero =>
        rcases t1' with ⟨i, z⟩ | z
        · cases z
        · cases z
      | succ n' =>
        rcases t1' with ⟨i, z⟩ | z | ⟨a1, a2, z, ta, tb⟩
        · cases z
        · cases z
        · cases z
          exact ⟨n', rfl, ta, tb⟩
    refine ⟨_, rfl, V.ref a, V.ty "tuple", _, _, true, rfl, .ty "tuple", .base (.tup ha), kit_ty (by decide +kernel), true, rfl, iteT ?_⟩
    refine ⟨_, rfl, .inl ⟨rfl, _, SqL.of hl2⟩, _, rfl, a, _, rfl, .inr (SqT.of ha), fun l hl => ?_⟩
    have s3 := same_new hl (.lst [x, y])
    have ne3 : lf ≠ l := ne_of_none hl2 hl
    refine ⟨lf, l, vs0, [x, y], rfl, rfl, s3 _ _ hl2, upd_same, small13 (by show vs0.length + 2 ≤ _; omega), ?_⟩
    have tt3 : Tups H2 (upd (upd H2 l (.lst [x, y])) lf (.lst (vs0 ++ [x, y]))) := (Tups.same s3).trans (Tups.updL (s3 _ _ hl2))
    have pn : 3 ^ (n' + 1) = 3 * 3 ^ n' := by rw [Nat.pow_succ]; omega
    have w2 := wsum_snoc (L0 ++ [(e1, n')]) (g1, n')
    have w1 := wsum_snoc L0 (e1, n')
    have n6' : n' + 1 ≤ 6 := n6
    have hws' : wsum (L0 ++ [(PyData.tuple [e1, g1], n' + 1)]) = wsum L0 + 3 ^ (n' + 1) := hws
    have w1' : wsum (L0 ++ [(e1, n')]) = wsum L0 + 3 ^ n' := w1
    have w2' : wsum (L0 ++ [(e1, n')] ++ [(g1, n')]) = wsum (L0 ++ [(e1, n')]) + 3 ^ n' := w2
    have p1' : 1 ≤ 3 ^ n' := Nat.one_le_pow _ _ (by decide)
    refine ⟨wsum (L0 ++ [(e1, n')] ++ [(g1, n')]), by omega, vs0 ++ [x, y], L0 ++ [(e1, n')] ++ [(g1, n')], _, rfl, by omega, rfl, same_upd (sc2.trans s3) hlf, upd_same, ?_, ?_, ?_⟩
    · have k := ((ka2.mono tt3).snoc (hx.mono tt3)).snoc (hy.mono tt3)
      rw [List.append_assoc] at k
      rw [List.map_append, List.map_append]
      exact k
    · intro p hp
      rcases List.mem_append.mp hp with hp | hp
      · rcases List.mem_append.mp hp with hp | hp
        · exact hL0 p hp
        · rw [List.mem_singleton.mp hp]; exact ⟨tx, by show n' ≤ 6; omega⟩
      · rw [List.mem_singleton.mp hp]; exact ⟨ty, by show n' ≤ 6; omega⟩
    · rw [← hany, List.any_append, List.any_append]
      show (((L0.any fun p => has o p.2 p.1) || (has o n' e1 || false)) || (has o n' g1 || false)) = ((L0.any fun p => has o p.2 p.1) || ((has o n' e1 || has o n' g1) || false))
      rw [Bool.or_false, Bool.or_false, Bool.or_false, Bool.or_assoc]
end
end TA

set_option Elab.async false
set_option maxRecDepth 100000
set_option maxHeartbeats 4000000
namespace TA
open PySem L2 PyProof.Rows
set_option linter.unusedVariables false
structure Txt4 (mg : Str → Option Value) : Prop where
  sorted : mg "sorted" = none
  abs : mg "abs" = none
abbrev KV := List (Key × V)
theorem val_mem {kvs : KV} {k : Key} {v : V} (e : valV kvs k = some v) : (k, v) ∈ kvs := by
  unfold valV at e
  obtain ⟨p, hp, rfl⟩ := Option.map_eq_some_iff.mp e
  have h1 := List.mem_of_find?_eq_some hp
  have h2 := List.find?_some hp
  have h3 : p.1 = k := of_decide_eq_true h2
  rw [← h3]
  exact h1
theorem val_none {kvs : KV} {k : Key} (e : valV kvs k = none) : k ∉ kvs.map (·.1) := fun m => by
  unfold valV at e
  rw [Option.map_eq_none_iff] at e
  obtain ⟨p, hp, rfl⟩ := List.mem_map.mp m
  have := List.find?_eq_none.mp e p hp
  simp at this
theorem keys_old {kvs : KV} {k : Key} {v w : V} (e : valV kvs k = some w) : (putK kvs k v).map (·.1) = kvs.map (·.1) := by
  unfold putK
  have a : (kvs.any fun kv => decide (kv.1 = k)) = true := List.any_eq_true.mpr ⟨_, val_mem e, decide_eq_true rfl⟩
  rw [if_pos a, List.map_map]
  refine List.map_congr_left fun p _ => ?_
  show (if p.1 = k then (p.1, v) else p).1 = p.1
  split <;> rfl
theorem val_key {kvs : KV} {ks : List Int} {s : Int} {w : V} (b : kvs.map (·.1) = ks.map Sum.inl) (hw : valV kvs (Sum.inl s) = some w) : s ∈ ks := by
  have m : (Sum.inl s : Key) ∈ kvs.map (·.1) := List.mem_map.mpr ⟨(Sum.inl s, w), val_mem hw, rfl⟩
  rw [b] at m
  obtain ⟨z, hz, ez⟩ := List.mem_map.mp m
  have : z = s := Sum.inl.inj ez
  rw [← this]
  exact hz
theorem inl_notin {ks : List Int} {s : Int} (h : (Sum.inl s : Key) ∉ ks.map Sum.inl) : s ∉ ks := fun m => h (List.mem_map.mpr ⟨s, m, rfl⟩)
theorem nodup_snoc {ks : List Int} {s : Int} (n : ks.Nodup) (h : s ∉ ks) : (ks ++ [s]).Nodup := by
  rw [List.nodup_append]
  exact ⟨n, by simp, fun a ha b hb => by rw [List.mem_singleton.mp hb]; exact fun e => h (e ▸ ha)⟩
/-- two rising lists of the same members -/
theorem rising_eq {ys zs : List Int} (p : ys.Perm zs) (a : ys.Pairwise (· ≤ ·)) (b : zs.Pairwise (· ≤ ·)) : ys = zs :=
  p.eq_of_pairwise (fun x y _ _ h1 h2 => by omega) a b
def upTo (n : Nat) : List Int := (List.range n).map fun i : Nat => (i : Int)
theorem upTo_mem {n : Nat} {s : Int} : s ∈ upTo n ↔ 0 ≤ s ∧ s < (n : Int) := by
  unfold upTo
  rw [List.mem_map]
  constructor
  · rintro ⟨i, hi, rfl⟩
    have := List.mem_range.mp hi
    omega
  · rintro ⟨a, b⟩
    exact ⟨s.toNat, List.mem_range.mpr (by omega), by omega⟩
theorem upTo_lt (n : Nat) : (upTo n).Pairwise (· < ·) := by
  unfold upTo
  rw [List.pairwise_map]
  refine List.Pairwise.imp (fun h => ?_) List.pairwise_lt_range
  omega
theorem upTo_nodup (n : Nat) : (upTo n).Nodup := (upTo_lt n).imp fun h e => by omega
theorem sorted_upTo {ks ys : List Int} {n : Nat} (nd : ks.Nodup) (m : ∀ s, s ∈ ks ↔ 0 ≤ s ∧ s < (n : Int)) (p : ys.Perm ks) (a : ys.Pairwise (· ≤ ·)) : ys = upTo n := by
  have q : ks.Perm (upTo n) := (List.perm_ext_iff_of_nodup nd (upTo_nodup n)).mpr fun s => by rw [m, upTo_mem]
  exact rising_eq (p.trans q) a ((upTo_lt n).imp fun h => by omega)
/-- the entries: each place with what stands there -/
def Ent (H : Hp) (x y : Int) (d : Nat) (kvs : KV) : Prop := ∀ kv ∈ kvs, ∃ s : Int, kv.1 = Sum.inl s ∧ Kn H kv.2 (th x y d s) ∧ ∃ h < 2, At x y d (th x y d s) h s
theorem Ent.mono {H H' : Hp} {x y : Int} {d : Nat} {kvs : KV} (e : Ent H x y d kvs) (s : Tups H H') : Ent H' x y d kvs := fun kv m => by
  obtain ⟨z, a, b, c⟩ := e kv m
  exact ⟨z, a, b.mono s, c⟩
def spLines (K : PySem.W.Frag) : Sp := fun vs H Q _ => ∃ (t : Addr) (x y : Int) (d : Nat), vs = [.ref t, .int (d : Int)] ∧ H t = some (.tup [.int x, .int y]) ∧ 0 ≤ x ∧ 0 ≤ y ∧ d < 4 ∧
  ∀ (o td sl : Addr) (kvs : KV) (ks : List Int) (H' : Hp), Same H H' → H' o = some (.tup [.ref td, .ref sl]) → H' td = some (.dK kvs) → kvs.map (·.1) = ks.map Sum.inl → ks.Nodup → (∀ s, s ∈ ks ↔ 0 ≤ s ∧ s < ((3 ^ d + 1 : Nat) : Int)) → Ent H' x y d kvs → H' sl = some (.lst ((upTo (3 ^ d)).map V.int)) → Q (.ref o) H'
structure LI (H0 Hc : Hp) (t td me p : Addr) (rs : List Addr) (W : List (List Int)) (x y : Int) (d i : Nat) (ex : List Int) : Prop where
  same : ∀ b o, b ≠ td → b ≠ me → H0 b = some o → Hc b = some o
  f1 : ∃ o, H0 td = some o
  f2 : ∃ o, H0 me = some o
  ne : td ≠ me
  pn : H0 p = none
  hp : Hc p = some (.lst (rs.map V.ref))
  rows : RowsOf H0 Hc rs W
  ht : Hc t = some (.tup [.int x, .int y])
  there : ∃ (kvs : KV) (ks : List Int), Hc td = some (.dK kvs) ∧ kvs.map (·.1) = ks.map Sum.inl ∧ ks.Nodup ∧ Ent Hc x y d kvs ∧ (∀ (j : Nat) (xs : List Int), j < i → W[j]? = some xs → ∀ h < 2, (P0.run (toN xs)).cur h ∈ ks) ∧ ∀ s ∈ ex, s ∈ ks
  met : ∃ (mvs : KV) (ms : List Int), Hc me = some (.dK mvs) ∧ mvs.map (·.1) = ms.map Sum.inl ∧ ms.Nodup ∧ (∀ m ∈ ms, 0 ≤ m ∧ m < ((3 ^ d : Nat) : Int)) ∧ (∀ (j : Nat) (xs : List Int), j < i → W[j]? = some xs → minOf xs ∈ ms)
section
variable {H0 Hc H' : Hp} {t td me p : Addr} {rs : List Addr} {W : List (List Int)} {x y : Int} {d i : Nat} {ex : List Int}
theorem LI.sameH (L : LI H0 Hc t td me p rs W x y d i ex) (s : Same Hc H') : LI H0 H' t td me p rs W x y d i ex := by
  obtain ⟨kvs, ks, a, b, c, e, f, g⟩ := L.there
  obtain ⟨mvs, ms, a', b', c', e', f'⟩ := L.met
  exact { L with same := fun z o n1 n2 h => s _ _ (L.same z o n1 n2 h), hp := s _ _ L.hp, rows := L.rows.mono s, ht := s _ _ L.ht, there := ⟨kvs, ks, s _ _ a, b, c, e.mono (Tups.same s), f, g⟩, met := ⟨mvs, ms, s _ _ a', b', c', e', f'⟩ }
theorem LI.old (L : LI H0 Hc t td me p rs W x y d i ex) {kvs : KV} {s : Int} {w : V} (h : Hc td = some (.dK kvs)) (hw : valV kvs (Sum.inl s) = some w) : LI H0 Hc t td me p rs W x y d i (ex ++ [s]) := by
  obtain ⟨kvs', ks, a, b, c, e, f, g⟩ := L.there
  rw [h] at a
  cases a
  have ms : s ∈ ks := val_key b hw
  refine { L with there := ⟨kvs, ks, h, b, c, e, f, fun z hz => ?_⟩ }
  rcases List.mem_append.mp hz with hz | hz
  · exact g z hz
  · rw [List.mem_singleton.mp hz]; exact ms
theorem LI.put (L : LI H0 Hc t td me p rs W x y d i ex) {kvs : KV} {s : Int} {w : V} (h : Hc td = some (.dK kvs)) (hn : valV kvs (Sum.inl s) = none) (kw : Kn Hc w (th x y d s)) {hd : Nat} (hh : hd < 2) (A : At x y d (th x y d s) hd s) :
    LI H0 (upd Hc td (.dK (putK kvs (Sum.inl s) w))) t td me p rs W x y d i (ex ++ [s]) := by
  obtain ⟨kvs', ks, a, b, c, e, f, g⟩ := L.there
  rw [h] at a
  cases a
  obtain ⟨mvs, ms, a', b', c', e', f'⟩ := L.met
  have ns : s ∉ ks := inl_notin (by rw [← b]; exact val_none hn)
  have tt : Tups Hc (upd Hc td (.dK (putK kvs (Sum.inl s) w))) := fun q xs e => by
    rw [upd_ne (ne_of e h (fun z => by cases z))]
    exact e
  obtain ⟨o1, f1⟩ := L.f1
  obtain ⟨o2, f2⟩ := L.f2
  have pne : p ≠ td := (ne_of_none f1 L.pn).symm
  refine { L with same := fun z o n1 n2 hz => by rw [upd_ne n1]; exact L.same z o n1 n2 hz, hp := by rw [upd_ne pne]; exact L.hp, rows := L.rows.updD f1, ht := tt _ _ L.ht, there := ⟨_, ks ++ [s], upd_same, ?_, nodup_snoc c ns, ?_, fun j xs hj hW k hk => List.mem_append_left _ (f j xs hj hW k hk), ?_⟩, met := ⟨mvs, ms, by rw [upd_ne L.ne.symm]; exact a', b', c', e', f'⟩ }
  · rw [putK_new w hn, List.map_append, List.map_append, b]
    rfl
  · intro kv hm
    rw [putK_new w hn] at hm
    rcases List.mem_append.mp hm with hm | hm
    · exact e.mono tt kv hm
    · rw [List.mem_singleton.mp hm]
      exact ⟨s, rfl, kw.mono tt, hd, hh, A⟩
  · intro z hz
    rcases List.mem_append.mp hz with hz | hz
    · exact List.mem_append_left _ (g z hz)
    · exact List.mem_append_right _ hz
theorem LI.putMet (L : LI H0 Hc t td me p rs W x y d i ex) {mvs : KV} {xs : List Int} (h : Hc me = some (.dK mvs)) (hW : W[i]? = some xs) (hex : ∀ h < 2, (P0.run (toN xs)).cur h ∈ ex) (m0 : 0 ≤ minOf xs) (m1 : minOf xs < ((3 ^ d : Nat) : Int)) :
    LI H0 (upd Hc me (.dK (putK mvs (Sum.inl (minOf xs)) (.bl true)))) t td me p rs W x y d (i + 1) [] := by
  obtain ⟨kvs, ks, a, b, c, e, f, g⟩ := L.there
  obtain ⟨mvs', ms, a', b', c', e', f'⟩ := L.met
  rw [h] at a'
  cases a'
  have tt : Tups Hc (upd Hc me (.dK (putK mvs (Sum.inl (minOf xs)) (.bl true)))) := fun q xs e => by
    rw [upd_ne (ne_of e h (fun z => by cases z))]
    exact e
  obtain ⟨o2, f2⟩ := L.f2
  have pne : p ≠ me := (ne_of_none f2 L.pn).symm
  have nxt : ∀ {j : Nat} {zs : List Int}, j < i + 1 → W[j]? = some zs → j < i ∨ zs = xs := fun {j zs} hj hz => by
    by_cases q : j < i
    · exact .inl q
    · obtain rfl : j = i := by omega
      rw [hW] at hz
      exact .inr (Option.some.inj hz).symm
  refine { L with same := fun z o n1 n2 hz => by rw [upd_ne n2]; exact L.same z o n1 n2 hz, hp := by rw [upd_ne pne]; exact L.hp, rows := L.rows.updD f2, ht := tt _ _ L.ht, there := ⟨kvs, ks, by rw [upd_ne L.ne]; exact a, b, c, e.mono tt, ?_, fun z hz => by cases hz⟩, met := ?_ }
  · intro j zs hj hz k hk
    rcases nxt hj hz with q | rfl
    · exact f j zs q hz k hk
    · exact g _ (hex k hk)
  · cases hv : valV mvs (Sum.inl (minOf xs)) with
    | some w =>
      have ms' : minOf xs ∈ ms := val_key b' hv
      refine ⟨_, ms, upd_same, (keys_old hv).trans b', c', e', fun j zs hj hz => ?_⟩
      rcases nxt hj hz with q | rfl
      · exact f' j zs q hz
      · exact ms'
    | none =>
      have ns : minOf xs ∉ ms := inl_notin (by rw [← b']; exact val_none hv)
      refine ⟨_, ms ++ [minOf xs], upd_same, by rw [putK_new _ hv, List.map_append, List.map_append, b']; rfl, nodup_snoc c' ns, fun m hm => ?_, fun j zs hj hz => ?_⟩
      · rcases List.mem_append.mp hm with hm | hm
        · exact e' m hm
        · rw [List.mem_singleton.mp hm]; exact ⟨m0, m1⟩
      · rcases nxt hj hz with q | rfl
        · exact List.mem_append_left _ (f' j zs q hz)
        · exact List.mem_append_right _ List.mem_cons_self
end
theorem len_in : ∀ {n : Nat} {ks : List Int}, ks.Nodup → (∀ s ∈ ks, 0 ≤ s ∧ s < (n : Int)) → ks.length ≤ n
  | 0, ks, _, m => by
    cases ks with
    | nil => exact Nat.le_refl _
    | cons a r => have := m a List.mem_cons_self; omega
  | n + 1, ks, nd, m => by
    by_cases c : (n : Int) ∈ ks
    · have nd' := nd.erase (n : Int)
      have := len_in (n := n) nd' fun s hs => by
        have h := (nd.mem_erase_iff).mp hs
        have := m s h.2
        have := h.1
        omega
      rw [List.length_erase_of_mem c] at this
      omega
    · have := len_in (n := n) nd fun s hs => by
        have := m s hs
        have : s ≠ (n : Int) := fun e => c (e ▸ hs)
        omega
      omega
theorem pow_cast (d : Nat) : ((3 ^ d : Nat) : Int) = (3 : Int) ^ d := by
  rw [Int.natCast_pow]
  rfl
section
variable {P : Program} {w : World} {K : PySem.W.Frag} {mg : Str → Option Value} {base : Heap}
abbrev nLines : List Str := ["_law_inputs", "_law_deep", "_law_there", "_law_met_here", "_law_weaving", "_law_both", "_law_hand", "_law_spots"]
theorem scLines : FnScope nLines ["_law_inputs", "_law_deep"] (defScope s__law_lines) := ⟨rfl, rfl, rfl, by decide +kernel, rfl, by decide +kernel, by decide +kernel⟩
theorem ok_lines {f g4 g5 g6 cN : Addr} {fd d4 d5 d6 : FuncData} (F : Fun K "_law_lines" "_law_lines" s__law_lines f fd) (T : Txt K mg) (T4 : Txt4 mg) (D4 : Def P w K mg base "weavings" ["rounds"] 3 (spWeav K) g4 d4) (D5 : KDef P w K mg base g5 d5) (D6 : PDef P w K mg base cN g6 d6) :
    FnOk P w K mg base CX0 11 f fd ["_law_inputs", "_law_deep"] (spLines K) := by
  refine F.ok scLines (fun vs H Q E h => ?_) (fun cdv A outer s H vs Q E hr h => ?_)
  · obtain ⟨t, x, y, d, rfl, _⟩ := h
    rfl
  obtain ⟨t, x, y, d, rfl, ht, hx, hy, hd, q⟩ := h
  have nd := scLines.nd
  have hu := hu_of hr
  have mA := T4.abs
  refine ⟨_, (pss_cons (ps_set (i := 2) nd rfl (Or.inl rfl) pe_dnewK)
    (pss_cons (ps_set (i := 3) nd rfl (Or.inl rfl) pe_dnewK)
    (pss_cons (ps_for PassesOwn.never (by rfl) (pi_list (pe_call D4.G (hr.mono (by decide)) rfl D4.m D4.k D4.b .nil pass0 (pa_cons (pv 1) pa_nil))) (pg_name (i := 4) nd rfl (Or.inl rfl))
      (pss_cons (ps_set (i := 5) nd rfl (Or.inr rfl) (pe_callN D5.G (hr.mono (by decide)) rfl D5.m D5.k D5.b pass0 (pa_cons (pv 0) (pa_cons (pv 4) pa_nil)) (pk_cons (pv 1) pk_nil)))
    (pss_cons (ps_setLc (i := 7) (own := [("_law_hand", 6)]) (g := gName 6) (tt := tYes) (te := tCallS (spPlace cN) (fun _ _ _ _ => False) (tCons (tOp (rIxL K) (tVar 5) (tVar 6)) (tCons (tVar 6) tNil))) rfl nd rfl rfl (sw_true rfl rfl rfl (by decide +kernel)) (pi_range1 (by rfl) T.range (pa_cons pe_int pa_nil)) (blkOk_by (N := nLines) (sc := defScope s__law_lines) (by decide +kernel)) (fun _ _ _ _ _ => pg_name (i := 6) nd rfl (Or.inl rfl)) (fun _ _ _ _ _ => pts_nil) (fun _ _ _ _ _ => (by exact pe_callS D6.G (hr.mono (by decide)) rfl D6.m D6.k D6.b (fun σ => passN σ) (pa_cons (pe_ix ix_list (pv 5) (pv 6) (fun _ _ => rfl)) (pa_cons (pv 6) pa_nil)))))
    (pss_cons (ps_for PassesOwn.never (by rfl) (pi_range1 (by rfl) T.range (pa_cons pe_int pa_nil)) (pg_name (i := 6) nd rfl (Or.inl rfl))
      (pss_one (ps_if (PW.pt (pw_or (pt_cmpR (op_neD hr.units) (pe_dsetd (pv 2) (pe_ix ix_list (pv 7) (pv 6) (fun _ _ => rfl)) (pe_ix ix_list (pv 5) (pv 6) (fun _ _ => rfl)) ⟨by rfl, by rfl, by rfl, by rfl⟩) (pe_ix ix_list (pv 5) (pv 6) (fun _ _ => rfl)) (nomark _)) (pw_or1 (pt_cmpR op_ne (pe_op op_mod (pe_ix ix_list (pv 7) (pv 6) (fun _ _ => rfl)) pe_int) (pv 6) (nomark _)))))
      (pss_one (ps_ret pe_non))
      pss_nil)))
    (pss_cons (ps_if (pt_cmpR op_ne (pe_callB call_abs (by rfl) mA (by decide +kernel) (pa_cons (pe_op op_sub (pe_ix ix_list (pv 7) pe_int (fun _ _ => rfl)) (pe_ix ix_list (pv 7) pe_int (fun _ _ => rfl))) pa_nil)) pe_int (nomark _))
      (pss_one (ps_ret pe_non))
      pss_nil)
    (pss_one (ps_dput hu (pv 3) (pe_callB (cr_min rfl) (by rfl) T.min (by decide +kernel) (pa_cons (pv 7) pa_nil)) pe_bl rfl)))))))
    (pss_one (ps_ret (pe_tup (pa_cons (pv 2) (pa_cons (pe_callB (call_sortedDI rfl) (by rfl) T4.sorted (by decide +kernel) (pa_cons (pv 3) pa_nil)) pa_nil)))))))), ?_⟩
  refine fun td htd => ?_
  refine fun me hme => ?_
  have s1 := same_new htd (.dK [])
  have s2 := same_new hme (.dK [])
  have etd : (upd (upd H td (.dK [])) me (.dK [])) td = some (.dK []) := s2 _ _ upd_same
  have eme : (upd (upd H td (.dK [])) me (.dK [])) me = some (.dK []) := upd_same
  have ntm : td ≠ me := ne_of_none upd_same hme
  have s12 := s1.trans s2
  have ftd : H td = none := htd
  have fme : H me = none := s1.free hme
  generalize upd (upd H td (.dK [])) me (.dK []) = H0 at etd eme s12 ⊢
  refine ⟨_, rfl, d, rfl, hd, fun p rs H1 s3 hp0 hp hrows => ?_⟩
  have hrl := hrows.len
  have start : LI H0 H1 t td me p rs (lvl (2 * d) (4 * d)) x y d 0 [] := by
    refine { same := fun b o _ _ h => s3 _ _ h, f1 := ⟨_, etd⟩, f2 := ⟨_, eme⟩, ne := ntm, pn := hp0, hp := hp, rows := hrows, ht := s3 _ _ (s12 _ _ ht), there := ⟨[], [], s3 _ _ etd, rfl, List.nodup_nil, (fun kv hm => by cases hm), (fun j xs hj => absurd hj (Nat.not_lt_zero _)), fun s hs => by cases hs⟩, met := ⟨[], [], s3 _ _ eme, rfl, List.nodup_nil, (fun m hm => by cases hm), fun j xs hj => absurd hj (Nat.not_lt_zero _)⟩ }
  have p3 : ((3 ^ d : Nat) : Int) = (3 : Int) ^ d := pow_cast d
  have pd27 : 3 ^ d ≤ 27 := by
    have : 3 ^ d ≤ 3 ^ 3 := Nat.pow_le_pow_right (by decide) (by omega)
    omega
  have pd1 : 1 ≤ 3 ^ d := Nat.one_le_pow _ _ (by decide)
  have allok := List.all_eq_true.mp (rows_ok d hd)
  refine ⟨p, rfl, ⟨_, SqL.of hp⟩, for_list (K := K) (a := p) (xs := rs.map V.ref) (fun i σ Hc => ∃ g4 g5 g6 g7, σ = [some (.ref t), some (.int (d : Int)), some (.ref td), some (.ref me), g4, g5, g6, g7] ∧ LI H0 Hc t td me p rs (lvl (2 * d) (4 * d)) x y d i []) ⟨none, none, none, none, rfl, start⟩ ?_ ?_ ?_⟩
  · rintro i σ Hc _ ⟨g4, g5, g6, g7, _, L⟩
    exact SqL.of L.hp
  · rintro i v0 σ Hc hx0 ⟨g4, g5, g6, g7, rfl, L⟩
    obtain ⟨r, xs, rfl, hW, hr0, hrr⟩ := L.rows.get hx0
    have ok := allok xs (List.mem_of_getElem? hW)
    unfold rowOk at ok
    obtain ⟨o1, ok⟩ := Bool.and_eq_true_iff.mp ok
    obtain ⟨o2, ok⟩ := Bool.and_eq_true_iff.mp ok
    obtain ⟨o3, o4⟩ := Bool.and_eq_true_iff.mp ok
    have o1 := of_decide_eq_true o1
    have o3 := of_decide_eq_true o3
    have o4 := of_decide_eq_true o4
    have hh : ∀ h ∈ toN xs, h < 2 := fun h hm => of_decide_eq_true (List.all_eq_true.mp o2 h hm)
    have hl0 : xs.map V.int = hl (toN xs) := by rw [hl_ints, o1]
    rw [hl0] at hrr
    have full : ∀ h < 2, (toN xs).count h = 2 * d := fun h h2 => by
      obtain rfl | rfl : h = 0 ∨ h = 1 := by omega
      · exact o3
      · exact o4
    have hlen := len_counts (toN xs) hh
    have curs : minOf xs = if (P0.run (toN xs)).cur 1 < (P0.run (toN xs)).cur 0 then (P0.run (toN xs)).cur 1 else (P0.run (toN xs)).cur 0 := rfl
    have facts : ∀ h < 2, ((M0 x y).run (toN xs)).res d h = ((M0 x y).run (toN xs)).k h ∧ At x y d (((M0 x y).run (toN xs)).k h) h ((P0.run (toN xs)).cur h) ∧ ((M0 x y).run (toN xs)).k h = th x y d ((P0.run (toN xs)).cur h) := fun h h2 => by
      obtain ⟨a1, a2, _⟩ := behind hx hy hh h2 (full h h2)
      refine ⟨a1, a2, ?_⟩
      obtain ⟨u, eu, ec, iu⟩ := a2
      rw [← ec]
      exact th_eq h2 eu iu
    have cf := fun h (h2 : h < 2) => cur_facts hx hy hh h2 (full h h2)
    have near := cur_near hx hy hh (full 0 (by decide)) (full 1 (by decide))
    refine ⟨_, rfl, _, rfl, _, rfl, rfl, rfl, r, toN xs, d, x, y, ⟨t, rfl, L.ht, SqL.of hrr⟩, hh, (fun h h2 => Nat.le_of_eq (full h h2)), by omega, by omega, hx, hy, fun bo v H2 s4 hbo0 hbo kb => ?_⟩
    have L2 := L.sameH s4
    have kb' : ∀ h < 2, Kn H2 (v h) (th x y d ((P0.run (toN xs)).cur h)) := fun h h2 => by
      rw [← (facts h h2).2.2, ← (facts h h2).1]
      exact kb h h2
    have fA : ∀ h < 2, At x y d (th x y d ((P0.run (toN xs)).cur h)) h ((P0.run (toN xs)).cur h) := fun h h2 => by
      have := (facts h h2).2.1
      rw [(facts h h2).2.2] at this
      exact this
    clear kb facts
    generalize hc : (P0.run (toN xs)).cur = cur at kb' fA cf near curs
    have shp : ∀ h < 2, SeqAt.shaped (th x y d (cur h)) = true := fun h h2 => by
      obtain ⟨u, eu, _⟩ := fA h h2
      exact ((stand_tr eu).ok.up (show d + 1 ≤ 64 by omega)).shaped
    have pl : ∀ h < 2, placeD (th x y d (cur h)) h = some (cur h) := fun h h2 => (fA h h2).place (by omega)
    refine ⟨2, rfl, by decide, by decide, fun D hD => ?_⟩
    refine range_turns (n := 2) (fun j H' => Same H2 H' ∧ H' D = some (.lst ([V.int (cur 0), V.int (cur 1)].take j))) ⟨same_new hD _, upd_same⟩ ?_ ?_
    · rintro j H' hj ⟨s5, h5⟩
      have ei : (0 : Int) + (j : Int) = (j : Int) := by omega
      rw [ei]
      refine ⟨rfl, _, rfl, _, rfl, bo, _, _, _, rfl, rfl, SqL.of (s5 _ _ hbo), at_two v hj, _, rfl, v j, _, j, rfl, (kb' j hj).mono (Tups.same s5), hj, (fun z => by rw [pl j hj] at z; cases z), fun jj hjj H'' s6 => ?_⟩
      obtain rfl : cur j = jj := by rw [pl j hj] at hjj; exact Option.some.inj hjj
      refine ⟨_, s6 _ _ h5, Nat.lt_of_le_of_lt (List.length_take_le j _) (Nat.lt_of_lt_of_le hj (by decide)), same_upd (s5.trans s6) hD, ?_⟩
      rw [upd_same, List.take_add_one, two_get (fun h => V.int (cur h)) hj]
      rfl
    rintro H3 ⟨s5, hD3⟩
    have hD3' : H3 D = some (.lst [V.int (cur 0), V.int (cur 1)]) := hD3
    have L3 := L2.sameH s5
    have hbo3 := s5 _ _ hbo
    have kb3 : ∀ h < 2, Kn H3 (v h) (th x y d (cur h)) := fun h h2 => (kb' h h2).mono (Tups.same s5)
    refine ⟨2, rfl, by decide, by decide, for_range (n := 2) (fun j σ Hc => ∃ g6, σ = [some (.ref t), some (.int (d : Int)), some (.ref td), some (.ref me), some (.ref r), some (.ref bo), g6, some (.ref D)] ∧ LI H0 Hc t td me p rs (lvl (2 * d) (4 * d)) x y d i ([cur 0, cur 1].take j) ∧ Hc bo = some (.lst [v 0, v 1]) ∧ Hc D = some (.lst [V.int (cur 0), V.int (cur 1)]) ∧ ∀ h < 2, Kn Hc (v h) (th x y d (cur h))) ⟨_, rfl, L3, hbo3, hD3', kb3⟩ ?_ ?_⟩
    · rintro j σ Hj hj ⟨g6, rfl, Lj, hb, hDj, kj⟩
      have ei : (0 : Int) + (j : Int) = (j : Int) := by omega
      rw [ei]
      have ex' : [cur 0, cur 1].take (j + 1) = [cur 0, cur 1].take j ++ [cur j] := by
        rw [List.take_add_one, two_get cur hj]
        rfl
      have sh := shp j hj
      have atD := at_two (fun h => V.int (cur h)) hj
      obtain ⟨kvs, ks, a1, a2, a3, a4, a5, a6⟩ := id Lj.there
      have klen : kvs.length < sizeLine := by
        have e1 : kvs.length = ks.length := by
          have := congrArg List.length a2
          rw [List.length_map, List.length_map] at this
          exact this
        have e2 := len_in (n := 3 ^ d + 1) a3 fun z hz => by
          have m : (Sum.inl z : Key) ∈ kvs.map (·.1) := by rw [a2]; exact List.mem_map.mpr ⟨z, hz, rfl⟩
          obtain ⟨kv, hkv, ekv⟩ := List.mem_map.mp m
          obtain ⟨s', es, _, hh', h2', ⟨u, eu, ec, _⟩⟩ := a4 kv hkv
          rw [es] at ekv
          have : s' = z := Sum.inl.inj ekv
          have := stand_range h2' eu
          omega
        exact Nat.lt_of_le_of_lt (show kvs.length ≤ 30 by omega) (by decide)
      have fin : ∀ (w : V) (Hk : Hp), Kn Hk w (th x y d (cur j)) → Hk bo = some (.lst [v 0, v 1]) → Hk D = some (.lst [V.int (cur 0), V.int (cur 1)]) → (∀ h < 2, Kn Hk (v h) (th x y d (cur h))) → True := fun _ _ _ _ _ _ => trivial
      refine ⟨_, rfl, td, rfl, .inl ⟨kvs, .inl a1⟩, _, rfl, _, rfl, D, _, _, _, rfl, rfl, SqL.of hDj, atD, _, rfl, _, rfl, bo, _, _, _, rfl, rfl, SqL.of hb, at_two v hj, kvs, Sum.inl (cur j), a1, rfl, klen, fun w hw => ?_, fun hn => ?_⟩
      · have kw : Kn Hj w (th x y d (cur j)) := by
          obtain ⟨s', es, k', _⟩ := a4 _ (val_mem hw)
          have : cur j = s' := Sum.inl.inj es
          rw [this]
          exact k'
        refine ⟨_, rfl, _, rfl, bo, _, _, _, rfl, rfl, SqL.of hb, at_two v hj, _, _, kw.dp, (kj j hj).dp, sh, sh, _, rfl, ?_⟩
        refine iteF' (by show (!PyData.eqv _ _) = false; rw [eqv_self sh]; rfl) ?_
        refine ⟨_, rfl, _, rfl, D, _, _, _, rfl, rfl, SqL.of hDj, atD, _, _, rfl, rfl, (by show (0 : Int) < 2; decide), _, rfl, rfl, _, rfl, ?_⟩
        refine iteF' (by show (!decide (V.int (cur j % 2) = V.int (j : Int))) = false; rw [(cf j hj).1]; simp) ?_
        refine ⟨_, rfl, ?_, hb, hDj, kj⟩
        rw [ex']
        exact Lj.old a1 hw
      · have tt : Tups Hj (upd Hj td (.dK (putK kvs (Sum.inl (cur j)) (v j)))) := fun q xs e => by
          rw [upd_ne (ne_of e a1 (fun z => by cases z))]
          exact e
        have hb' : (upd Hj td (.dK (putK kvs (Sum.inl (cur j)) (v j)))) bo = some (.lst [v 0, v 1]) := by rw [upd_ne (ne_of hb a1 (fun z => by cases z))]; exact hb
        have hDj' : (upd Hj td (.dK (putK kvs (Sum.inl (cur j)) (v j)))) D = some (.lst [V.int (cur 0), V.int (cur 1)]) := by rw [upd_ne (ne_of hDj a1 (fun z => by cases z))]; exact hDj
        have kj' : ∀ h < 2, Kn (upd Hj td (.dK (putK kvs (Sum.inl (cur j)) (v j)))) (v h) (th x y d (cur h)) := fun h h2 => (kj h h2).mono tt
        have Lp := Lj.put a1 hn (kj j hj) hj (fA j hj)
        refine ⟨_, rfl, _, rfl, bo, _, _, _, rfl, rfl, SqL.of hb', at_two v hj, _, _, (kj' j hj).dp, (kj' j hj).dp, sh, sh, _, rfl, ?_⟩
        refine iteF' (by show (!PyData.eqv _ _) = false; rw [eqv_self sh]; rfl) ?_
        refine ⟨_, rfl, _, rfl, D, _, _, _, rfl, rfl, SqL.of hDj', atD, _, _, rfl, rfl, (by show (0 : Int) < 2; decide), _, rfl, rfl, _, rfl, ?_⟩
        refine iteF' (by show (!decide (V.int (cur j % 2) = V.int (j : Int))) = false; rw [(cf j hj).1]; simp) ?_
        refine ⟨_, rfl, ?_, hb', hDj', kj'⟩
        rw [ex']
        exact Lp
    · rintro σ Hj ⟨g6, rfl, Lj, hb, hDj, kj⟩
      have a0 : atI [V.int (cur 0), V.int (cur 1)] 0 = some (.int (cur 0)) := rfl
      have a1 : atI [V.int (cur 0), V.int (cur 1)] 1 = some (.int (cur 1)) := rfl
      refine ⟨_, rfl, D, _, _, _, rfl, rfl, SqL.of hDj, a0, _, rfl, D, _, _, _, rfl, rfl, SqL.of hDj, a1, _, _, rfl, rfl, _, rfl, rfl, _, rfl, ?_⟩
      have habs : (if cur 0 - cur 1 < 0 then -(cur 0 - cur 1) else cur 0 - cur 1) = 1 := by split <;> omega
      refine iteF' (by show (!decide (V.int (if cur 0 - cur 1 < 0 then -(cur 0 - cur 1) else cur 0 - cur 1) = V.int 1)) = false; rw [habs]; rfl) ?_
      obtain ⟨mvs, ms, b1, b2, b3, b4, b5⟩ := id Lj.met
      have mlen : mvs.length < sizeLine := by
        have e1 : mvs.length = ms.length := by
          have := congrArg List.length b2
          rw [List.length_map, List.length_map] at this
          exact this
        have e2 := len_in (n := 3 ^ d) b3 b4
        exact Nat.lt_of_le_of_lt (show mvs.length ≤ 30 by omega) (by decide)
      refine ⟨_, rfl, _, rfl, D, [cur 0, cur 1], rfl, SqL.of hDj, (by show 0 < 2; decide), fun m hm hle => ?_⟩
      have hm0 : m ≤ cur 0 := hle _ List.mem_cons_self
      have hm1 : m ≤ cur 1 := hle _ (List.mem_cons_of_mem _ List.mem_cons_self)
      have hm' : m = cur 0 ∨ m = cur 1 := by simpa using hm
      have em : m = minOf xs := by
        rw [curs]
        split <;> omega
      rw [em]
      refine ⟨me, _, rfl, DPut.k (k := Sum.inl (minOf xs)) b1 mlen, ?_⟩
      have c0 := cf 0 (by decide)
      have c1 := cf 1 (by decide)
      refine ⟨_, _, _, _, rfl, Lj.putMet b1 hW (fun h h2 => ?_) (by omega) (by omega)⟩
      rw [hc]
      obtain rfl | rfl : h = 0 ∨ h = 1 := by omega
      · exact List.mem_cons_self
      · exact List.mem_cons_of_mem _ List.mem_cons_self
  · rintro σ Hc ⟨g4, g5, g6, g7, rfl, L⟩
    rw [List.length_map, hrl] at L
    obtain ⟨kvs, ks, a1, a2, a3, a4, a5, _⟩ := id L.there
    obtain ⟨mvs, ms, b1, b2, b3, b4, b5⟩ := id L.met
    have cov : ∀ j : Nat, j < 3 ^ d → ∃ i xs, i < (lvl (2 * d) (4 * d)).length ∧ (lvl (2 * d) (4 * d))[i]? = some xs ∧ minOf xs = (j : Int) := fun j hj => by
      have c := covers d hd j hj
      unfold covB at c
      split at c
      · rename_i xs e
        exact ⟨_, xs, (List.getElem?_eq_some_iff.mp e).1, e, of_decide_eq_true c⟩
      · cases c
    have msm : ∀ s, s ∈ ms ↔ 0 ≤ s ∧ s < ((3 ^ d : Nat) : Int) := fun s => by
      constructor
      · exact b4 s
      · rintro ⟨h1, h2⟩
        obtain ⟨i, xs, hi, hW, e⟩ := cov s.toNat (by omega)
        have := b5 i xs hi hW
        rw [e] at this
        rw [show s = ((s.toNat : Nat) : Int) by omega]
        exact this
    have ksm : ∀ s, s ∈ ks ↔ 0 ≤ s ∧ s < ((3 ^ d + 1 : Nat) : Int) := fun s => by
      constructor
      · intro hs
        have m : (Sum.inl s : Key) ∈ kvs.map (·.1) := by rw [a2]; exact List.mem_map.mpr ⟨s, hs, rfl⟩
        obtain ⟨kv, hkv, ekv⟩ := List.mem_map.mp m
        obtain ⟨s', es, _, hh', h2', ⟨u, eu, ec, _⟩⟩ := a4 kv hkv
        rw [es] at ekv
        have : s' = s := Sum.inl.inj ekv
        have := stand_range h2' eu
        omega
      · rintro ⟨h1, h2⟩
        obtain ⟨i, xs, hi, hW, e⟩ := cov (if s < ((3 ^ d : Nat) : Int) then s.toNat else 3 ^ d - 1) (by split <;> omega)
        have ok := allok xs (List.mem_of_getElem? hW)
        unfold rowOk at ok
        obtain ⟨_, ok⟩ := Bool.and_eq_true_iff.mp ok
        obtain ⟨o2, ok⟩ := Bool.and_eq_true_iff.mp ok
        obtain ⟨o3, o4⟩ := Bool.and_eq_true_iff.mp ok
        have near := cur_near hx hy (fun h hm => of_decide_eq_true (List.all_eq_true.mp o2 h hm)) (of_decide_eq_true o3) (of_decide_eq_true o4)
        have k0 := a5 i xs hi hW 0 (by decide)
        have k1 := a5 i xs hi hW 1 (by decide)
        unfold minOf at e
        generalize (P0.run (toN xs)).cur 0 = z0 at near k0 e
        generalize (P0.run (toN xs)).cur 1 = z1 at near k1 e
        have : s = z0 ∨ s = z1 := by
          split at e <;> split at e <;> omega
        rcases this with rfl | rfl
        · exact k0
        · exact k1
    have mlen := len_in (n := 3 ^ d) b3 b4
    refine ⟨_, rfl, _, rfl, me, mvs, ms, rfl, .inl b1, b2, by omega, fun ys sp perm srt hsp => ?_⟩
    rw [sorted_upTo b3 msm perm srt]
    have s6 := same_new hsp (.lst ((upTo (3 ^ d)).map V.int))
    refine ⟨(by show 2 ≤ sizeLine; decide), fun o ho => ?_⟩
    have s7 := same_new ho (.tup [V.ref td, V.ref sp])
    have s67 := s6.trans s7
    refine q o td sp kvs ks _ (fun b o' hb => ?_) upd_same (s67 _ _ a1) a2 a3 ksm (a4.mono (Tups.same s67)) (s7 _ _ upd_same)
    exact s67 _ _ (L.same b o' (ne_of_none hb ftd) (ne_of_none hb fme) (s12 _ _ hb))
end
end TA

set_option Elab.async false
set_option maxRecDepth 100000
set_option maxHeartbeats 4000000
namespace TA
open PySem L2 PyProof.Rows
set_option linter.unusedVariables false
theorem for_turns {J : It} (n : Nat) {g : TG} {tb : TS} {D : Ends} {σ0 : L2.St} {H0 : Hp} (Pv : Nat → L2.St → Hp → Prop) (start : Pv 0 σ0 H0) (last : ∀ σ H, Pv n σ H → J.stop n H ∧ D.nx σ H)
    (turn : ∀ i σ H, i < n → Pv i σ H → J.go i H ∧ ∀ x H', J.yld i H x H' → g x σ H' fun σ2 H2 => tb { D with nx := Pv (i + 1), ct := Pv (i + 1), bk := D.nx } σ2 H2) :
    ∃ W : Nat → Nat → L2.St → Hp → Prop, (∃ m, W 0 m σ0 H0) ∧ ∀ i m σ H, W i m σ H →
      (J.stop i H ∧ D.nx σ H) ∨ (J.go i H ∧ ∃ N : L2.St → Hp → Prop, (∀ σ' H', N σ' H' → ∃ m', m' < m ∧ W (i + 1) m' σ' H') ∧ ∀ x H', J.yld i H x H' → g x σ H' fun σ2 H2 => tb { D with nx := N, ct := N, bk := D.nx } σ2 H2) := by
  refine ⟨fun i m σ H => i + m = n ∧ Pv i σ H, ⟨n, by omega, start⟩, fun i m σ H h => ?_⟩
  obtain ⟨hm, word⟩ := h
  cases m with
  | zero =>
    have hin : i = n := by omega
    rw [hin] at word ⊢
    exact Or.inl (last σ H word)
  | succ m =>
    obtain ⟨go, step⟩ := turn i σ H (by omega) word
    exact Or.inr ⟨go, Pv (i + 1), fun σ' H' w' => ⟨m, by omega, by omega, w'⟩, step⟩
def spLaw (K : PySem.W.Frag) : Sp := fun vs H Q _ => ∃ (a : Addr) (ns : List Int), vs = [.ref a] ∧ SqL K H a (ns.map V.int) ∧ ns.length ≤ 63 ∧ ∀ H', Q (.bl true) H'
theorem rg_upTo (n : Nat) : rgV 0 (n : Int) = (upTo n).map V.int := by
  unfold rgV upTo
  rw [List.map_map, show ((n : Int) - 0).toNat = n by omega]
  refine List.map_congr_left fun i _ => ?_
  show V.int (0 + (i : Int)) = V.int (i : Int)
  rw [Int.zero_add]
theorem ints_shaped (xs : List Int) : SeqAt.shaped (.list (xs.map PyData.int)) = true := list_shaped (n := 1) (fun d hd => by
  obtain ⟨i, _, rfl⟩ := List.mem_map.mp hd
  exact ok_int i (by decide)) (by decide)
theorem in_two (s a b : Int) : inV (.int s) [.int a, .int b] = decide (s = a ∨ s = b) := by
  by_cases h1 : a = s
  · subst h1; simp [inV, eqV]
  · by_cases h2 : b = s
    · subst h2; simp [inV, eqV]
    · have h1' : ¬ s = a := fun e => h1 e.symm
      have h2' : ¬ s = b := fun e => h2 e.symm
      simp [inV, eqV, h1, h2, h1', h2']
section
variable {P : Program} {w : World} {K : PySem.W.Frag} {mg : Str → Option Value} {base : Heap}
abbrev nLaw : List Str := ["_law_script", "_law_well_here", "_law_deep", "_law_inputs", "_law_last", "_law_found", "_law_spot", "_law_thing"]
theorem scLaw : FnScope nLaw ["_law_script"] (defScope sLaw) := ⟨rfl, rfl, rfl, by decide +kernel, rfl, by decide +kernel, by decide +kernel⟩
theorem ok_law {f g1 g2 g3 g4 g5 g6 g7 g8 : Addr} {fd d1 d2 d3 d4 d5 d6 d7 d8 : FuncData} (F : Fun K "law" "law" sLaw f fd) (T : Txt K mg) (T4 : Txt4 mg) (D1 : Def P w K mg base "_law_well" ["_law_cell"] 1 spWell g1 d1) (D2 : Def P w K mg base "_law_cell_at" ["_law_script", "_law_k"] 1 (spCell K) g2 d2) (D3 : Def P w K mg base "_law_one" ["_law_well_here", "_law_some"] 2 spOne2 g3 d3)
    (D4 : Def P w K mg base "_law_draw" ["_law_well_here", "_law_many"] 1 spDraw2 g4 d4) (D5 : Def P w K mg base "_law_power" ["_law_deep"] 1 spPower g5 d5) (D6 : Def P w K mg base "_law_lines" ["_law_inputs", "_law_deep"] 11 (spLines K) g6 d6) (D7 : Def P w K mg base "_law_plain" ["_law_thing"] 1 spPlain g7 d7) (D8 : Def P w K mg base "_law_met" ["_law_thing", "_law_other"] 1 spMetL g8 d8) :
    FnOk P w K mg base CX0 12 f fd ["_law_script"] (spLaw K) := by
  refine F.ok scLaw (fun vs H Q E h => ?_) (fun cdv A outer s H vs Q E hr h => ?_)
  · obtain ⟨a, ns, rfl, _⟩ := h
    rfl
  obtain ⟨a0, ns, rfl, hS, h63, q⟩ := h
  have nd := scLaw.nd
  refine ⟨_, (pss_cons (ps_set (i := 1) nd rfl (Or.inl rfl) (pe_call D1.G (hr.mono (by decide)) rfl D1.m D1.k D1.b .nil pass0 (pa_cons (pe_call D2.G (hr.mono (by decide)) rfl D2.m D2.k D2.b .nil pass0 (pa_cons (pv 0) (pa_cons pe_int pa_nil))) pa_nil)))
    (pss_cons (ps_set (i := 2) nd rfl (Or.inl rfl) (pe_call D3.G (hr.mono (by decide)) rfl D3.m D3.k D3.b .nil pass0 (pa_cons (pv 1) (pa_cons (pe_lst (pa_cons pe_int (pa_cons pe_int (pa_cons pe_int (pa_cons pe_int (pa_cons pe_int (pa_cons pe_int pa_nil))))))) pa_nil))))
    (pss_cons (ps_set (i := 3) nd rfl (Or.inl rfl) (pe_tup (pa_cons (pe_call D4.G (hr.mono (by decide)) rfl D4.m D4.k D4.b .nil pass0 (pa_cons (pv 1) (pa_cons pe_int pa_nil))) (pa_cons (pe_op op_add pe_int (pe_call D4.G (hr.mono (by decide)) rfl D4.m D4.k D4.b .nil pass0 (pa_cons (pv 1) (pa_cons (pe_op op_pow pe_int pe_int) pa_nil)))) pa_nil))))
    (pss_cons (ps_set (i := 4) nd rfl (Or.inl rfl) (pe_call D5.G (hr.mono (by decide)) rfl D5.m D5.k D5.b .nil pass0 (pa_cons (pv 2) pa_nil)))
    (pss_cons (ps_set (i := 5) nd rfl (Or.inl rfl) (pe_call D6.G (hr.mono (by decide)) rfl D6.m D6.k D6.b .nil pass0 (pa_cons (pv 3) (pa_cons (pv 2) pa_nil))))
    (pss_cons (ps_if (PW.pt (pw_or (pt_cmpR op_isN (pv 5) pe_non (nomark _)) (pw_or (pt_cmpR (op_neD hr.units) (pe_callB (call_sortedDI rfl) (by rfl) T4.sorted (by decide +kernel) (pa_cons (pe_ix ix_tup (pv 5) pe_int (fun _ _ => rfl)) pa_nil)) (pe_listRg rfl (by rfl) T.list (prg_1 (by rfl) T.range (pe_op op_add (pv 4) pe_int))) (nomark _)) (pw_or1 (pt_cmpR (op_neD hr.units) (pe_ix ix_tup (pv 5) pe_int (fun _ _ => rfl)) (pe_listRg rfl (by rfl) T.list (prg_1 (by rfl) T.range (pv 4))) (nomark _))))))
      (pss_one (ps_ret pe_bl))
      pss_nil)
    (pss_cons (ps_lock (ps_for PassesOwn.never (by rfl) (pi_items (pe_ix ix_tup (pv 5) pe_int (fun _ _ => rfl))) (pg_tup (by rfl) (pgs_cons (pg_name (i := 6) nd rfl (Or.inl rfl)) (pgs_cons (pg_name (i := 7) nd rfl (Or.inl rfl)) pgs_nil)))
      (pss_cons (ps_if (pt_cmpR op_ne (pe_call D7.G (hr.mono (by decide)) rfl D7.m D7.k D7.b .nil pass0 (pa_cons (pv 7) pa_nil)) (pe_cmpR op_in_seq (pv 6) (pe_tup (pa_cons pe_int (pa_cons (pv 4) pa_nil))) (by rfl)) (nomark _))
      (pss_one (ps_ret pe_bl))
      pss_nil)
    (pss_one (ps_if (pt_cmpR op_eq (pe_call D8.G (hr.mono (by decide)) rfl D8.m D8.k D8.b .nil pass0 (pa_cons (pv 7) (pa_cons (pe_ix ix_tup (pv 3) (pe_op op_sub pe_int (pe_op op_mod (pv 6) pe_int)) (fun _ _ => rfl)) pa_nil))) (pe_cmpR op_in_seq (pv 6) (pe_tup (pa_cons pe_int (pa_cons (pv 4) pa_nil))) (by rfl)) (nomark _))
      (pss_one (ps_ret pe_bl))
      pss_nil)))))
    (pss_one (ps_ret pe_bl))))))))), ?_⟩
  refine ⟨_, rfl, a0, ns, 0, rfl, hS, by omega, Int.le_refl 0, fun c => ?_⟩
  refine ⟨c, rfl, fun a x0' y0' ha hx0 hy0 hy1 => ?_⟩
  have w1 : WellAt (upd H a (.lst [.int x0', .int y0', .int 0])) a 0 := ⟨x0', y0', 0, upd_same, hx0, hy0, hy1, Int.le_refl 0, Int.le_refl 0⟩
  generalize upd H a (.lst [.int x0', .int y0', .int 0]) = H1 at w1 ⊢
  refine ⟨_, rfl, (by show 6 ≤ sizeLine; decide), fun l hl0 => ?_⟩
  obtain ⟨xa, ya, za, ea, _⟩ := id w1
  have s1 := same_new hl0 (.lst [V.int 0, V.int 1, V.int 2, V.int 2, V.int 2, V.int 3])
  refine ⟨a, l, _, _, rfl, w1.same s1, by decide, upd_same, ne_of_none ea hl0, by decide, by decide, fun i v0 H2 hv b2 w2 => ?_⟩
  obtain ⟨d, rfl, hd⟩ : ∃ d : Nat, v0 = .int (d : Int) ∧ d < 4 := by
    rcases i with _ | _ | _ | _ | _ | _ | i
    · exact ⟨0, by simpa using hv.symm, by decide⟩
    · exact ⟨1, by simpa using hv.symm, by decide⟩
    · exact ⟨2, by simpa using hv.symm, by decide⟩
    · exact ⟨2, by simpa using hv.symm, by decide⟩
    · exact ⟨2, by simpa using hv.symm, by decide⟩
    · exact ⟨3, by simpa using hv.symm, by decide⟩
    · simp at hv
  refine ⟨_, rfl, a, _, 4, rfl, w2, by decide, by decide, by decide, fun x H3 x0 x1 b3 w3 => ?_⟩
  refine ⟨_, rfl, _, _, rfl, rfl, ⟨by decide, by decide, by decide⟩, a, _, (10 ^ (20 : Int).toNat), rfl, w3, by decide, by decide, by decide, fun y' H4 y0 y1 b4 w4 => ?_⟩
  refine ⟨_, _, rfl, rfl, (by show 2 ≤ sizeLine; decide), fun t ht0 => ?_⟩
  have hyx : x ≠ 4 + y' := by omega
  have hy : 0 ≤ 4 + y' := by omega
  have ht : (upd H4 t (.tup [V.int x, V.int (4 + y')])) t = some (.tup [V.int x, V.int (4 + y')]) := upd_same
  show gName 3 (.ref t) _ (upd H4 t (.tup [V.int x, V.int (4 + y')])) _
  generalize 4 + y' = y at hyx hy ht ⊢
  generalize upd H4 t (.tup [V.int x, V.int y]) = H5 at ht ⊢
  refine ⟨_, rfl, d, rfl, by omega, ?_⟩
  refine ⟨_, rfl, _, rfl, t, x, y, d, rfl, ht, x0, hy, hd, fun o td sl kvs ks H6 s6 ho htd hkeys hnd hmem hent hsl => ?_⟩
  have pc := pow_cast d
  have pd27 : 3 ^ d ≤ 27 := by
    have : 3 ^ d ≤ 3 ^ 3 := Nat.pow_le_pow_right (by decide) (by omega)
    omega
  have pc0 : (0 : Int) ≤ 3 ^ d := by rw [← pc]; exact Int.natCast_nonneg _
  have pc1 : (3 : Int) ^ d ≤ 27 := by rw [← pc]; exact Int.ofNat_le.mpr pd27
  have klen := len_in hnd fun s hs => (hmem s).mp hs
  refine ⟨_, rfl, rfl, _, rfl, iteF ?_⟩
  refine ⟨_, rfl, o, _, _, _, rfl, rfl, SqT.of ho, (by rfl), td, kvs, ks, rfl, .inl htd, hkeys, by omega, fun ys p perm srt hp => ?_⟩
  rw [sorted_upTo hnd hmem perm srt]
  have s7 := same_new hp (.lst ((upTo (3 ^ d + 1)).map V.int))
  have e1 : (3 : Int) ^ d + 1 = ((3 ^ d + 1 : Nat) : Int) := by omega
  refine ⟨_, rfl, _, _, rfl, rfl, _, rfl, RgOk.of_le (by decide) (by omega) (by decide) (by omega), fun p2 hp2 => ?_⟩
  have s8 := same_new hp2 (.lst (rgV 0 ((3 : Int) ^ d + 1)))
  have hp2' : (upd (upd H6 p (.lst ((upTo (3 ^ d + 1)).map V.int))) p2 (.lst (rgV 0 ((3 : Int) ^ d + 1)))) p2 = some (.lst ((upTo (3 ^ d + 1)).map V.int)) := by
    rw [upd_same, e1, rg_upTo]
  have sh1 := ints_shaped (upTo (3 ^ d + 1))
  refine ⟨_, _, .lst (SqL.of (s8 _ _ upd_same)) (ints_dp _), .lst (SqL.of hp2') (ints_dp _), sh1, sh1, _, rfl, ?_⟩
  refine iteF' (by show (!PyData.eqv _ _) = false; rw [eqv_self sh1]; rfl) ?_
  have s78 := s7.trans s8
  generalize upd (upd H6 p (.lst ((upTo (3 ^ d + 1)).map V.int))) p2 (.lst (rgV 0 ((3 : Int) ^ d + 1))) = H7 at s78 ⊢
  refine ⟨_, rfl, o, _, _, _, rfl, rfl, SqT.of (s78 _ _ ho), (by rfl), _, rfl, _, rfl, RgOk.of_le (by decide) (by omega) (by decide) (by omega), fun p3 hp3 => ?_⟩
  have s9 := same_new hp3 (.lst (rgV 0 ((3 : Int) ^ d)))
  have hp3' : (upd H7 p3 (.lst (rgV 0 ((3 : Int) ^ d)))) p3 = some (.lst ((upTo (3 ^ d)).map V.int)) := by
    rw [upd_same, ← pc, rg_upTo]
  have sh2 := ints_shaped (upTo (3 ^ d))
  refine ⟨_, _, .lst (SqL.of (s9 _ _ (s78 _ _ hsl))) (ints_dp _), .lst (SqL.of hp3') (ints_dp _), sh2, sh2, _, rfl, ?_⟩
  refine iteF' (by show (!PyData.eqv _ _) = false; rw [eqv_self sh2]; rfl) ?_
  have sA := s78.trans s9
  have htd8 := sA _ _ htd
  have ht8 := sA _ _ (s6 _ _ ht)
  have ho8 := sA _ _ ho
  have hent8 := hent.mono (Tups.same sA)
  generalize upd H7 p3 (.lst (rgV 0 ((3 : Int) ^ d))) = H8 at htd8 ht8 ho8 hent8 ⊢
  refine ⟨td, _, htd8, trivial, fun od => ?_⟩
  have tt : Tups H8 (upd H8 td (.frz od (.dK kvs))) := fun q' xs e => by
    rw [upd_ne (ne_of e htd8 (fun z => by cases z))]
    exact e
  refine ⟨_, rfl, o, _, _, _, rfl, rfl, SqT.of (tt _ _ ho8), (by rfl), td, od, kvs, rfl, upd_same, for_turns kvs.length (fun i σ Hc => ∃ g6 g7, σ = [some (.ref a0), some (.ref a), some (.int (d : Int)), some (.ref t), some (.int (3 ^ d)), some (.ref o), g6, g7] ∧ Hc td = some (.frz od (.dK kvs)) ∧ Hc t = some (.tup [.int x, .int y]) ∧ Ent Hc x y d kvs) ⟨none, none, rfl, upd_same, tt _ _ ht8, hent8.mono tt⟩ ?_ ?_⟩
  · rintro σ Hc ⟨g6, g7, rfl, h1, h2, h3⟩
    exact ⟨⟨h1, Nat.le_refl _⟩, h1, q _⟩
  · rintro i σ Hc hi ⟨g6, g7, rfl, h1, h2, h3⟩
    refine ⟨⟨h1, hi⟩, ?_⟩
    rintro v H' ⟨T9, k, vv, hkv, rfl, hT, rfl⟩
    obtain ⟨s, es, kn, h, hh, A⟩ := h3 _ (List.mem_of_getElem? hkv)
    have es' : k = Sum.inl s := es
    subst es'
    have s10 := same_new hT (.tup [kV (Sum.inl s), vv])
    have kn1 : Kn _ vv (th x y d s) := kn.mono (Tups.same s10)
    have h11 := s10 _ _ h1
    have h12 := s10 _ _ h2
    have h13 := h3.mono (Tups.same s10)
    obtain ⟨u, eu, ec, iu⟩ := A
    refine ⟨T9, _, rfl, SqT.of upd_same, rfl, _, _, rfl, _, _, rfl, rfl, ?_⟩
    generalize upd Hc T9 (.tup [kV (Sum.inl s), vv]) = H9 at kn1 h11 h12 h13 ⊢
    have inn : inV (.int s) [.int 0, .int (3 ^ d)] = (oth h u).isNone := by
      rw [in_two]
      cases co : oth h u with
      | none => rw [← ec, decide_eq_true (ends_of hh eu co)]; rfl
      | some z => rw [← ec, decide_eq_false (fun e => by rw [of_ends hh eu e] at co; cases co)]; rfl
    refine ⟨_, rfl, vv, _, d, h, u, rfl, kn1, eu, ?_⟩
    refine ⟨_, rfl, _, rfl, (by show 2 ≤ sizeLine; decide), fun T2 hT2 => ?_⟩
    have s11 := same_new hT2 (.tup [V.int 0, V.int (3 ^ d)])
    refine ⟨T2, _, rfl, .inr (SqT.of upd_same), rfl, rfl, rfl, _, rfl, ?_⟩
    refine iteF' ?_ ?_
    · show (!decide (V.bl (plainD d (th x y d s)) = V.bl (inV (.int s) [.int 0, .int (3 ^ d)]))) = false
      rw [plain_eq hh eu, inn]
      simp
    have kn2 := kn1.mono (Tups.same s11)
    have h21 := s11 _ _ h11
    have h22 := s11 _ _ h12
    have h23 := h13.mono (Tups.same s11)
    generalize upd H9 T2 (.tup [V.int 0, V.int (3 ^ d)]) = H10 at kn2 h21 h22 h23 ⊢
    have sr := stand_range hh eu
    rw [ec] at sr
    have ati : atI [V.int x, V.int y] (1 - s % 2) = some (.int (if h = 0 then y else x)) := by
      rw [sr.2.2]
      obtain rfl | rfl : h = 0 ∨ h = 1 := by omega
      · rfl
      · rfl
    refine ⟨_, rfl, _, rfl, _, rfl, _, _, rfl, rfl, (by show (0 : Int) < 2; decide), _, _, rfl, rfl, t, _, _, _, rfl, rfl, SqT.of h22, ati, vv, _, d, _, rfl, kn2, stand_tr eu, by omega, fun H11 s12 => ?_⟩
    have hs := has_eq hyx hh eu iu
    have hasoth : has (if h = 0 then y else x) d (th x y d s) = (oth h u).isSome := by
      obtain rfl | rfl : h = 0 ∨ h = 1 := by omega
      · exact hs.2
      · exact hs.1
    refine ⟨_, rfl, _, rfl, (by show 2 ≤ sizeLine; decide), fun T3 hT3 => ?_⟩
    have s13 := same_new hT3 (.tup [V.int 0, V.int (3 ^ d)])
    refine ⟨T3, _, rfl, .inr (SqT.of upd_same), rfl, rfl, rfl, _, rfl, ?_⟩
    refine iteF' ?_ ?_
    · show decide (V.bl (has (if h = 0 then y else x) d (th x y d s)) = V.bl (inV (.int s) [.int 0, .int (3 ^ d)])) = false
      rw [hasoth, inn]
      cases oth h u <;> rfl
    have sB := s12.trans s13
    exact ⟨_, _, rfl, sB _ _ h21, sB _ _ h22, h23.mono (Tups.same sB)⟩
end
end TA

set_option Elab.async false
set_option maxRecDepth 100000
set_option maxHeartbeats 4000000
set_option linter.unusedVariables false
namespace TA
open PySem PySem.Spec L2 PyProof.Rows
/-! what the top leaves, as tests that run -/
def raiseB (K : PySem.W.Frag) (C : Addr) : Bool := decide (PySem.W.subIn K (.ref C) (.type "BaseException") = some true) && decide (PySem.W.typeIn K (.ref C) = some (.type "type"))
theorem raiseB_ok {K : PySem.W.Frag} {mg : Str → Option Value} {n : Str} {C : Addr} (h : raiseB K C = true) (m : mg n = some (.ref C)) (x : PySem.W.excIn K C [.type "ValueError", .type "Exception", .type "BaseException", .type "object"] "ValueError.__new__" = true) (k : PySem.W.keepIn K (.ref C) = true) : RaiseC K mg n C := by
  obtain ⟨a, b⟩ := Bool.and_eq_true_iff.mp h
  exact ⟨m, x, k, of_decide_eq_true a, of_decide_eq_true b⟩
theorem all_mk {l : PySem.W.OpenLaw} {w : World} {K : PySem.W.Frag} {h : Heap} {mg : Str → Option Value} {fa f1 f2 f3 f4 f5 f6 f7 f8 f9 f10 f11 f12 f13 f14 f15 f16 f17 f18 f19 f20 f21 f22 hA0 cN : Addr} (X : K.In h) (G : h.Ns mainGlobals mg) (hfa : mg "law" = some (.ref fa))
    {od1 an1 od2 an2 od3 an3 od4 an4 od5 an5 od6 an6 od7 an7 od8 an8 od9 an9 od10 an10 od11 an11 od12 an12 od13 an13 od14 an14 od15 an15 od16 an16 od17 an17 od18 an18 od19 an19 od20 an20 od21 an21 od22 an22 odH0 : Option Addr} {sl1 sl2 sl3 sl4 sl5 sl6 sl7 sl8 sl9 sl10 sl11 sl12 sl13 sl14 sl15 sl16 sl17 sl18 sl19 sl20 sl21 sl22 slH0 : Array (Option Value)} {oc1 kV1 dc1 pm1 cd1 ct1 oc2 kV2 dc2 pm2 cd2 ct2 oc3 kV3 dc3 pm3 cd3 ct3 oc4 kV4 dc4 pm4 cd4 ct4 oc5 kV5 dc5 pm5 cd5 ct5 oc6 kV6 dc6 pm6 cd6 ct6 oc7 kV7 dc7 pm7 cd7 ct7 oc8 kV8 dc8 pm8 cd8 ct8 oc9 kV9 dc9 pm9 cd9 ct9 oc10 kV10 dc10 pm10 cd10 ct10 oc11 kV11 dc11 pm11 cd11 ct11 oc12 kV12 dc12 pm12 cd12 ct12 oc13 kV13 dc13 pm13 cd13 ct13 oc14 kV14 dc14 pm14 cd14 ct14 oc15 kV15 dc15 pm15 cd15 ct15 oc16 kV16 dc16 pm16 cd16 ct16 oc17 kV17 dc17 pm17 cd17 ct17 oc18 kV18 dc18 pm18 cd18 ct18 oc19 kV19 dc19 pm19 cd19 ct19 oc20 kV20 dc20 pm20 cd20 ct20 oc21 kV21 dc21 pm21 cd21 ct21 oc22 kV22 dc22 pm22 cd22 ct22 : Value} {tI0 tI1 tI2 tT0_0 tT0_1 : Tok} {nH0 : Nat}
    (a1 : PySem.W.nsIn K mainGlobals "is_whole" = some (some (.ref f1))) (l1 : K.lookup f1 = some ⟨oc1, od1, .func (PySem.W.fnOf "is_whole" "is_whole" (defArgs sWhole) (defBody sWhole) (defScope sWhole) .none kV1 dc1 pm1 an1 cd1 ct1), sl1⟩) (c1 : PySem.W.codeIn K cd1 "is_whole" = true) (k1 : PySem.W.keepIn K (.ref f1) = true)
    (a2 : PySem.W.nsIn K mainGlobals "is_whole_within" = some (some (.ref f2))) (l2 : K.lookup f2 = some ⟨oc2, od2, .func (PySem.W.fnOf "is_whole_within" "is_whole_within" (defArgs sWithin) (defBody sWithin) (defScope sWithin) .none kV2 dc2 pm2 an2 cd2 ct2), sl2⟩) (c2 : PySem.W.codeIn K cd2 "is_whole_within" = true) (k2 : PySem.W.keepIn K (.ref f2) = true)
    (a3 : PySem.W.nsIn K mainGlobals "is_hand" = some (some (.ref f3))) (l3 : K.lookup f3 = some ⟨oc3, od3, .func (PySem.W.fnOf "is_hand" "is_hand" (defArgs sHand) (defBody sHand) (defScope sHand) .none kV3 dc3 pm3 an3 cd3 ct3), sl3⟩) (c3 : PySem.W.codeIn K cd3 "is_hand" = true) (k3 : PySem.W.keepIn K (.ref f3) = true)
    (a4 : PySem.W.nsIn K mainGlobals "is_inputs" = some (some (.ref f4))) (l4 : K.lookup f4 = some ⟨oc4, od4, .func (PySem.W.fnOf "is_inputs" "is_inputs" (defArgs sInputs) (defBody sInputs) (defScope sInputs) .none kV4 dc4 pm4 an4 cd4 ct4), sl4⟩) (c4 : PySem.W.codeIn K cd4 "is_inputs" = true) (k4 : PySem.W.keepIn K (.ref f4) = true)
    (a5 : PySem.W.nsIn K mainGlobals "is_weaving" = some (some (.ref f5))) (l5 : K.lookup f5 = some ⟨oc5, od5, .func (PySem.W.fnOf "is_weaving" "is_weaving" (defArgs sWeaving) (defBody sWeaving) (defScope sWeaving) .none kV5 dc5 pm5 an5 cd5 ct5), sl5⟩) (c5 : PySem.W.codeIn K cd5 "is_weaving" = true) (k5 : PySem.W.keepIn K (.ref f5) = true)
    (a6 : PySem.W.nsIn K mainGlobals "put_in" = some (some (.ref f6))) (l6 : K.lookup f6 = some ⟨oc6, od6, .func (PySem.W.fnOf "put_in" "put_in" (defArgs sPut) (defBody sPut) (defScope sPut) .none kV6 dc6 pm6 an6 cd6 ct6), sl6⟩) (c6 : PySem.W.codeIn K cd6 "put_in" = true) (k6 : PySem.W.keepIn K (.ref f6) = true)
    (a7 : PySem.W.nsIn K mainGlobals "known" = some (some (.ref f7))) (l7 : K.lookup f7 = some ⟨oc7, od7, .func (PySem.W.fnOf "known" "known" (defArgs sKnown) (defBody sKnown) (defScope sKnown) .none kV7 dc7 pm7 an7 cd7 ct7), sl7⟩) (c7 : PySem.W.codeIn K cd7 "known" = true) (k7 : PySem.W.keepIn K (.ref f7) = true)
    (a8 : PySem.W.nsIn K mainGlobals "rounds_behind" = some (some (.ref f8))) (l8 : K.lookup f8 = some ⟨oc8, od8, .func (PySem.W.fnOf "rounds_behind" "rounds_behind" (defArgs s_rounds_behind) (defBody s_rounds_behind) (defScope s_rounds_behind) .none kV8 dc8 pm8 an8 cd8 ct8), sl8⟩) (c8 : PySem.W.codeIn K cd8 "rounds_behind" = true) (k8 : PySem.W.keepIn K (.ref f8) = true)
    (a9 : PySem.W.nsIn K mainGlobals "agrees" = some (some (.ref f9))) (l9 : K.lookup f9 = some ⟨oc9, od9, .func (PySem.W.fnOf "agrees" "agrees" (defArgs s_agrees) (defBody s_agrees) (defScope s_agrees) .none kV9 dc9 pm9 an9 cd9 ct9), sl9⟩) (c9 : PySem.W.codeIn K cd9 "agrees" = true) (k9 : PySem.W.keepIn K (.ref f9) = true)
    (a10 : PySem.W.nsIn K mainGlobals "met" = some (some (.ref f10))) (l10 : K.lookup f10 = some ⟨oc10, od10, .func (PySem.W.fnOf "met" "met" (defArgs s_met) (defBody s_met) (defScope s_met) .none kV10 dc10 pm10 an10 cd10 ct10), sl10⟩) (c10 : PySem.W.codeIn K cd10 "met" = true) (k10 : PySem.W.keepIn K (.ref f10) = true)
    (a11 : PySem.W.nsIn K mainGlobals "standing" = some (some (.ref f11))) (l11 : K.lookup f11 = some ⟨oc11, od11, .func (PySem.W.fnOf "standing" "standing" (defArgs s_standing) (defBody s_standing) (defScope s_standing) .none kV11 dc11 pm11 an11 cd11 ct11), sl11⟩) (c11 : PySem.W.codeIn K cd11 "standing" = true) (k11 : PySem.W.keepIn K (.ref f11) = true)
    (a12 : PySem.W.nsIn K mainGlobals "place" = some (some (.ref f12))) (l12 : K.lookup f12 = some ⟨oc12, od12, .func (PySem.W.fnOf "place" "place" (defArgs sPlace) (defBody sPlace) (defScope sPlace) .none kV12 dc12 pm12 an12 cd12 ct12), sl12⟩) (c12 : PySem.W.codeIn K cd12 "place" = true) (k12 : PySem.W.keepIn K (.ref f12) = true)
    (a13 : PySem.W.nsIn K mainGlobals "_law_cell_at" = some (some (.ref f13))) (l13 : K.lookup f13 = some ⟨oc13, od13, .func (PySem.W.fnOf "_law_cell_at" "_law_cell_at" (defArgs sCell) (defBody sCell) (defScope sCell) .none kV13 dc13 pm13 an13 cd13 ct13), sl13⟩) (c13 : PySem.W.codeIn K cd13 "_law_cell_at" = true) (k13 : PySem.W.keepIn K (.ref f13) = true)
    (a14 : PySem.W.nsIn K mainGlobals "_law_well" = some (some (.ref f14))) (l14 : K.lookup f14 = some ⟨oc14, od14, .func (PySem.W.fnOf "_law_well" "_law_well" (defArgs sWell) (defBody sWell) (defScope sWell) .none kV14 dc14 pm14 an14 cd14 ct14), sl14⟩) (c14 : PySem.W.codeIn K cd14 "_law_well" = true) (k14 : PySem.W.keepIn K (.ref f14) = true)
    (a15 : PySem.W.nsIn K mainGlobals "_law_draw" = some (some (.ref f15))) (l15 : K.lookup f15 = some ⟨oc15, od15, .func (PySem.W.fnOf "_law_draw" "_law_draw" (defArgs sDraw) (defBody sDraw) (defScope sDraw) .none kV15 dc15 pm15 an15 cd15 ct15), sl15⟩) (c15 : PySem.W.codeIn K cd15 "_law_draw" = true) (k15 : PySem.W.keepIn K (.ref f15) = true)
    (a16 : PySem.W.nsIn K mainGlobals "_law_one" = some (some (.ref f16))) (l16 : K.lookup f16 = some ⟨oc16, od16, .func (PySem.W.fnOf "_law_one" "_law_one" (defArgs sOne) (defBody sOne) (defScope sOne) .none kV16 dc16 pm16 an16 cd16 ct16), sl16⟩) (c16 : PySem.W.codeIn K cd16 "_law_one" = true) (k16 : PySem.W.keepIn K (.ref f16) = true)
    (a17 : PySem.W.nsIn K mainGlobals "_law_power" = some (some (.ref f17))) (l17 : K.lookup f17 = some ⟨oc17, od17, .func (PySem.W.fnOf "_law_power" "_law_power" (defArgs sPower) (defBody sPower) (defScope sPower) .none kV17 dc17 pm17 an17 cd17 ct17), sl17⟩) (c17 : PySem.W.codeIn K cd17 "_law_power" = true) (k17 : PySem.W.keepIn K (.ref f17) = true)
    (a18 : PySem.W.nsIn K mainGlobals "weavings" = some (some (.ref f18))) (l18 : K.lookup f18 = some ⟨oc18, od18, .func (PySem.W.fnOf "weavings" "weavings" (defArgs sWeav) (defBody sWeav) (defScope sWeav) .none kV18 dc18 pm18 an18 cd18 ct18), sl18⟩) (c18 : PySem.W.codeIn K cd18 "weavings" = true) (k18 : PySem.W.keepIn K (.ref f18) = true)
    (a19 : PySem.W.nsIn K mainGlobals "_law_plain" = some (some (.ref f19))) (l19 : K.lookup f19 = some ⟨oc19, od19, .func (PySem.W.fnOf "_law_plain" "_law_plain" (defArgs s__law_plain) (defBody s__law_plain) (defScope s__law_plain) .none kV19 dc19 pm19 an19 cd19 ct19), sl19⟩) (c19 : PySem.W.codeIn K cd19 "_law_plain" = true) (k19 : PySem.W.keepIn K (.ref f19) = true)
    (a20 : PySem.W.nsIn K mainGlobals "_law_met" = some (some (.ref f20))) (l20 : K.lookup f20 = some ⟨oc20, od20, .func (PySem.W.fnOf "_law_met" "_law_met" (defArgs s__law_met) (defBody s__law_met) (defScope s__law_met) .none kV20 dc20 pm20 an20 cd20 ct20), sl20⟩) (c20 : PySem.W.codeIn K cd20 "_law_met" = true) (k20 : PySem.W.keepIn K (.ref f20) = true)
    (a21 : PySem.W.nsIn K mainGlobals "_law_lines" = some (some (.ref f21))) (l21 : K.lookup f21 = some ⟨oc21, od21, .func (PySem.W.fnOf "_law_lines" "_law_lines" (defArgs s__law_lines) (defBody s__law_lines) (defScope s__law_lines) .none kV21 dc21 pm21 an21 cd21 ct21), sl21⟩) (c21 : PySem.W.codeIn K cd21 "_law_lines" = true) (k21 : PySem.W.keepIn K (.ref f21) = true)
    (a22 : PySem.W.nsIn K mainGlobals "law" = some (some (.ref f22))) (l22 : K.lookup f22 = some ⟨oc22, od22, .func (PySem.W.fnOf "law" "law" (defArgs sLaw) (defBody sLaw) (defScope sLaw) .none kV22 dc22 pm22 an22 cd22 ct22), sl22⟩) (c22 : PySem.W.codeIn K cd22 "law" = true) (k22 : PySem.W.keepIn K (.ref f22) = true)
    (z0 : PySem.W.nsIn K mainGlobals "isinstance" = some none)
    (z1 : PySem.W.nsIn K mainGlobals "int" = some none)
    (z2 : PySem.W.nsIn K mainGlobals "bool" = some none)
    (z3 : PySem.W.nsIn K mainGlobals "len" = some none)
    (z4 : PySem.W.nsIn K mainGlobals "range" = some none)
    (z5 : PySem.W.nsIn K mainGlobals "list" = some none)
    (z6 : PySem.W.nsIn K mainGlobals "tuple" = some none)
    (z7 : PySem.W.nsIn K mainGlobals "all" = some none)
    (z8 : PySem.W.nsIn K mainGlobals "sum" = some none)
    (z9 : PySem.W.nsIn K mainGlobals "min" = some none)
    (z10 : PySem.W.nsIn K mainGlobals "abs" = some none)
    (z11 : PySem.W.nsIn K mainGlobals "sorted" = some none)
    (i0 : PySem.W.nsIn K mainGlobals "STEPS" = some (some (.int 2 tI0)))
    (i1 : PySem.W.nsIn K mainGlobals "MOST_ROUNDS" = some (some (.int 5 tI1)))
    (i2 : PySem.W.nsIn K mainGlobals "MOST_WOVEN" = some (some (.int 3 tI2)))
    (t0 : PySem.W.nsIn K mainGlobals "HANDS" = some (some (.ref hA0))) (u0 : K.lookup hA0 = some ⟨.type "tuple", odH0, .seq (Array.mk [.int 0 tT0_0, .int 1 tT0_1]) nH0, slH0⟩)
    (n0 : PySem.W.nsIn K mainGlobals "NoKnown" = some (some (.ref cN)))
    (q_cN : PySem.W.excIn K cN [.type "ValueError", .type "Exception", .type "BaseException", .type "object"] "ValueError.__new__" = true) (kk_cN : PySem.W.keepIn K (.ref cN) = true) (r_cN : raiseB K cN = true)
    : ∃ fd : FuncData, (∀ (s : Shared) (v : Value), BindsTo s fd ⟨[v], []⟩ [("_law_script", v)]) ∧ ∀ base : Heap, K.In base → base.Ns mainGlobals mg → FnOk l.prog w K mg base CX0 12 fa fd ["_law_script"] (spLaw K) := by
  have e := hfa.symm.trans (PySem.W.mg_of X G a22)
  cases e
  have F1 := fun_mk (st := sWhole) l1 c1 k1
  have b1 := F1.binds (ps := ["thing"]) fun _ _ _ _ _ _ us hl => match us, hl with | [_], _ => rfl
  have F2 := fun_mk (st := sWithin) l2 c2 k2
  have b2 := F2.binds (ps := ["thing", "least", "most"]) fun _ _ _ _ _ _ us hl => match us, hl with | [_, _, _], _ => rfl
  have F3 := fun_mk (st := sHand) l3 c3 k3
  have b3 := F3.binds (ps := ["thing"]) fun _ _ _ _ _ _ us hl => match us, hl with | [_], _ => rfl
  have F4 := fun_mk (st := sInputs) l4 c4 k4
  have b4 := F4.binds (ps := ["thing"]) fun _ _ _ _ _ _ us hl => match us, hl with | [_], _ => rfl
  have F5 := fun_mk (st := sWeaving) l5 c5 k5
  have b5 := F5.binds (ps := ["thing", "rounds"]) fun _ _ _ _ _ _ us hl => match us, hl with | [_, _], _ => rfl
  have F6 := fun_mk (st := sPut) l6 c6 k6
  have b6 := F6.binds (ps := ["cells", "at"]) fun _ _ _ _ _ _ us hl => match us, hl with | [_, _], _ => rfl
  have F7 := fun_mk (st := sKnown) l7 c7 k7
  have F8 := fun_mk (st := s_rounds_behind) l8 c8 k8
  have b8 := F8.binds (ps := ["thing"]) fun _ _ _ _ _ _ us hl => match us, hl with | [_], _ => rfl
  have F9 := fun_mk (st := s_agrees) l9 c9 k9
  have b9 := F9.binds (ps := ["one", "other"]) fun _ _ _ _ _ _ us hl => match us, hl with | [_, _], _ => rfl
  have F10 := fun_mk (st := s_met) l10 c10 k10
  have b10 := F10.binds (ps := ["own", "other"]) fun _ _ _ _ _ _ us hl => match us, hl with | [_, _], _ => rfl
  have F11 := fun_mk (st := s_standing) l11 c11 k11
  have b11 := F11.binds (ps := ["thing", "hand", "rounds"]) fun _ _ _ _ _ _ us hl => match us, hl with | [_, _, _], _ => rfl
  have F12 := fun_mk (st := sPlace) l12 c12 k12
  have b12 := F12.binds (ps := ["known", "hand"]) fun _ _ _ _ _ _ us hl => match us, hl with | [_, _], _ => rfl
  have F13 := fun_mk (st := sCell) l13 c13 k13
  have b13 := F13.binds (ps := ["_law_script", "_law_k"]) fun _ _ _ _ _ _ us hl => match us, hl with | [_, _], _ => rfl
  have F14 := fun_mk (st := sWell) l14 c14 k14
  have b14 := F14.binds (ps := ["_law_cell"]) fun _ _ _ _ _ _ us hl => match us, hl with | [_], _ => rfl
  have F15 := fun_mk (st := sDraw) l15 c15 k15
  have b15 := F15.binds (ps := ["_law_well_here", "_law_many"]) fun _ _ _ _ _ _ us hl => match us, hl with | [_, _], _ => rfl
  have F16 := fun_mk (st := sOne) l16 c16 k16
  have b16 := F16.binds (ps := ["_law_well_here", "_law_some"]) fun _ _ _ _ _ _ us hl => match us, hl with | [_, _], _ => rfl
  have F17 := fun_mk (st := sPower) l17 c17 k17
  have b17 := F17.binds (ps := ["_law_deep"]) fun _ _ _ _ _ _ us hl => match us, hl with | [_], _ => rfl
  have F18 := fun_mk (st := sWeav) l18 c18 k18
  have b18 := F18.binds (ps := ["rounds"]) fun _ _ _ _ _ _ us hl => match us, hl with | [_], _ => rfl
  have F19 := fun_mk (st := s__law_plain) l19 c19 k19
  have b19 := F19.binds (ps := ["_law_thing"]) fun _ _ _ _ _ _ us hl => match us, hl with | [_], _ => rfl
  have F20 := fun_mk (st := s__law_met) l20 c20 k20
  have b20 := F20.binds (ps := ["_law_thing", "_law_other"]) fun _ _ _ _ _ _ us hl => match us, hl with | [_, _], _ => rfl
  have F21 := fun_mk (st := s__law_lines) l21 c21 k21
  have b21 := F21.binds (ps := ["_law_inputs", "_law_deep"]) fun _ _ _ _ _ _ us hl => match us, hl with | [_, _], _ => rfl
  have F22 := fun_mk (st := sLaw) l22 c22 k22
  have m := fun {n : Str} {v : Value} (e : PySem.W.nsIn K mainGlobals n = some (some v)) => PySem.W.mg_of X G e
  have mz := fun {n : Str} (e : PySem.W.nsIn K mainGlobals n = some none) => PySem.W.mg_none_of X G e
  have T : Txt K mg := ⟨mz z0, mz z1, mz z2, mz z3, mz z4, mz z5, mz z6, mz z7, mz z8, mz z9⟩
  have U : Txt2 K mg := ⟨⟨_, m i0⟩, ⟨_, m i1⟩, ⟨_, m t0, fun H => .inr ⟨_, _, _, u0, rfl, rfl, (by show 2 ≤ sizeLine; decide), .cons ⟨_, rfl⟩ (.cons ⟨_, rfl⟩ .nil)⟩⟩⟩
  have B7 := kn_binds F7
  have R1 := raiseB_ok (mg := mg) r_cN (m n0) q_cN kk_cN
  have T4 : Txt4 mg := ⟨mz z11, mz z10⟩
  have UW : Txt2W K mg := ⟨⟨_, m i0⟩, ⟨_, m i2⟩, ⟨_, m t0, fun H => .inr ⟨_, _, _, u0, rfl, rfl, (by show 2 ≤ sizeLine; decide), .cons ⟨_, rfl⟩ (.cons ⟨_, rfl⟩ .nil)⟩⟩⟩
  refine ⟨PySem.W.fnOf "law" "law" (defArgs sLaw) (defBody sLaw) (defScope sLaw) .none kV22 dc22 pm22 an22 cd22 ct22, fun s v => .of_eq rfl, fun base _ _ => ?_⟩
  have e1 : Def l.prog w K mg base "is_whole" ["thing"] 1 spWhole f1 _ := ⟨ok_whole F1 T, b1, k1, m a1⟩
  have e1k : Def l.prog w K mg base "is_whole" ["thing"] 1 spWholeK f1 _ := ⟨ok_wholeK F1 T, b1, k1, m a1⟩
  have e2 : Def l.prog w K mg base "is_whole_within" ["thing", "least", "most"] 2 spWithin f2 _ := ⟨ok_within F2 e1.G e1.b e1.k e1.m, b2, k2, m a2⟩
  have e3 : Def l.prog w K mg base "is_hand" ["thing"] 3 spHand f3 _ := ⟨ok_hand F3 e2, b3, k3, m a3⟩
  have e4 : Def l.prog w K mg base "is_inputs" ["thing"] 2 spInputs f4 _ := ⟨ok_inputs F4 T e1, b4, k4, m a4⟩
  have e5 : Def l.prog w K mg base "is_weaving" ["thing", "rounds"] 4 (spWeaving K) f5 _ := ⟨ok_weaving F5 T U e3, b5, k5, m a5⟩
  have e6 : Def l.prog w K mg base "put_in" ["cells", "at"] 1 (spPut K) f6 _ := ⟨ok_put F6 T, b6, k6, m a6⟩
  have e7 : KDef l.prog w K mg base f7 _ := ⟨ok_known F7 T U e2 e4 e5 e6, B7, k7, m a7⟩
  have e8 : Def l.prog w K mg base "rounds_behind" ["thing"] 1 spRb f8 _ := ⟨ok_rb F8 T U, b8, k8, m a8⟩
  have e9 : Def l.prog w K mg base "agrees" ["one", "other"] 1 spAgr f9 _ := ⟨ok_agr F9, b9, k9, m a9⟩
  have e10 : Def l.prog w K mg base "met" ["own", "other"] 2 spMet f10 _ := ⟨ok_met F10 (mz z10) e9, b10, k10, m a10⟩
  have e11 := fun r => ok_stand (P := l.prog) (w := w) (base := base) F11 T e1k e10 b11 k11 (m a11) r
  have e12 : PDef l.prog w K mg base cN f12 _ := ⟨ok_place F12 R1 e3 e8 b11 k11 (m a11) (fun r _ => e11 r), b12, k12, m a12⟩
  have e13 : Def l.prog w K mg base "_law_cell_at" ["_law_script", "_law_k"] 1 (spCell K) f13 _ := ⟨ok_cell F13 T, b13, k13, m a13⟩
  have e14 : Def l.prog w K mg base "_law_well" ["_law_cell"] 1 spWell f14 _ := ⟨ok_well F14 T, b14, k14, m a14⟩
  have g15 := ok_draw (P := l.prog) (w := w) (mg := mg) (base := base) F15
  have e15 : Def l.prog w K mg base "_law_draw" ["_law_well_here", "_law_many"] 1 spDraw2 f15 _ := ⟨weak g15 draw_weak, b15, k15, m a15⟩
  have e16 : Def l.prog w K mg base "_law_one" ["_law_well_here", "_law_some"] 2 spOne2 f16 _ := ⟨weak (ok_one F16 T g15 b15 k15 (m a15)) one_weak, b16, k16, m a16⟩
  have e17 : Def l.prog w K mg base "_law_power" ["_law_deep"] 1 spPower f17 _ := ⟨ok_power F17 T, b17, k17, m a17⟩
  have e18 : Def l.prog w K mg base "weavings" ["rounds"] 3 (spWeav K) f18 _ := ⟨ok_weav F18 T UW e2.G e2.b e2.k e2.m, b18, k18, m a18⟩
  have e19 : Def l.prog w K mg base "_law_plain" ["_law_thing"] 1 spPlain f19 _ := ⟨ok_plain F19 T, b19, k19, m a19⟩
  have e20 : Def l.prog w K mg base "_law_met" ["_law_thing", "_law_other"] 1 spMetL f20 _ := ⟨ok_metL F20 T, b20, k20, m a20⟩
  have e21 : Def l.prog w K mg base "_law_lines" ["_law_inputs", "_law_deep"] 11 (spLines K) f21 _ := ⟨ok_lines F21 T T4 e18 e7 e12, b21, k21, m a21⟩
  exact ok_law F22 T T4 e14 e13 e16 e15 e17 e21 e19 e20
theorem walk {l : PySem.W.OpenLaw} {q : Program} {loose : List Str} {XP : (Str → Option Value) → Heap → Prop} {YP : World → Heap → Prop} {d : DefRec} {K : Params → PySem.W.Frag} (hn : l.most = some 63) (hdf : d.params.defaults = [])
    (hY : ∀ (w : World) (h : Heap), YP w h → (K w.params).In h)
    (F : ∀ (w : World) (mg : Str → Option Value) (fa : Addr) (h : Heap), (K w.params).In h → h.Ns mainGlobals mg → mg d.name = some (.ref fa) →
      ∃ fd : FuncData, (∀ (s : Shared) (u : Value), BindsTo s fd ⟨[u], []⟩ [("_law_script", u)]) ∧ ∀ base : Heap, (K w.params).In base → base.Ns mainGlobals mg → FnOk l.prog w (K w.params) mg base CX0 12 fa fd ["_law_script"] (spLaw (K w.params))) :
    PySem.W.WalkO q loose XP YP l.row.toRowW d [] (fun f vs => PySem.call f vs) :=
  L2.walk_of (n := 63) (k := 12) (x := "_law_script") (CX := fun _ => CX0) (sp := fun w => spLaw (K w.params)) hn (by decide) hdf ⟨rfl, by decide, by decide⟩ hY F (fun _ _ a ns hl _ hS => ⟨a, ns, rfl, hS, hl, fun _ => rfl⟩) fun _ _ _ _ _ z => z
end TA
open PySem PySem.W PyProof.Rows
set_option maxRecDepth 100000 in
set_option maxHeartbeats 0 in
theorem PySem.Challenge.cw_twoalone_k15_whole_the_line_of_places_holds : PySem.Challenge.rw_twoalone_k15_whole_the_line_of_places.Holds := by
  w_on; o_law; k_head; (case hw => w_witness2)
  k_fill
  refine TA.walk (l := PySem.Challenge.rw_twoalone_k15_whole_the_line_of_places) rfl rfl (fun w h Y => PySem.W.kIn_of Y) ?F
  case F =>
    intro w mg fa h KX G hmg
    refine' TA.all_mk KX G hmg ?a1 ?l1 ?c1 ?k1 ?a2 ?l2 ?c2 ?k2 ?a3 ?l3 ?c3 ?k3 ?a4 ?l4 ?c4 ?k4 ?a5 ?l5 ?c5 ?k5 ?a6 ?l6 ?c6 ?k6 ?a7 ?l7 ?c7 ?k7 ?a8 ?l8 ?c8 ?k8 ?a9 ?l9 ?c9 ?k9 ?a10 ?l10 ?c10 ?k10 ?a11 ?l11 ?c11 ?k11 ?a12 ?l12 ?c12 ?k12 ?a13 ?l13 ?c13 ?k13 ?a14 ?l14 ?c14 ?k14 ?a15 ?l15 ?c15 ?k15 ?a16 ?l16 ?c16 ?k16 ?a17 ?l17 ?c17 ?k17 ?a18 ?l18 ?c18 ?k18 ?a19 ?l19 ?c19 ?k19 ?a20 ?l20 ?c20 ?k20 ?a21 ?l21 ?c21 ?k21 ?a22 ?l22 ?c22 ?k22 ?z0 ?z1 ?z2 ?z3 ?z4 ?z5 ?z6 ?z7 ?z8 ?z9 ?z10 ?z11 ?i0 ?i1 ?i2 ?t0 ?u0 ?n0 ?q_cN ?kk_cN ?r_cN
    (case a1 => k_is); (case l1 => k_is); (case c1 => k_is); (case k1 => k_is); (case a2 => k_is); (case l2 => k_is); (case c2 => k_is); (case k2 => k_is); (case a3 => k_is); (case l3 => k_is); (case c3 => k_is); (case k3 => k_is); (case a4 => k_is); (case l4 => k_is); (case c4 => k_is); (case k4 => k_is); (case a5 => k_is); (case l5 => k_is); (case c5 => k_is); (case k5 => k_is); (case a6 => k_is); (case l6 => k_is); (case c6 => k_is); (case k6 => k_is); (case a7 => k_is); (case l7 => k_is); (case c7 => k_is); (case k7 => k_is); (case a8 => k_is); (case l8 => k_is); (case c8 => k_is); (case k8 => k_is); (case a9 => k_is); (case l9 => k_is); (case c9 => k_is); (case k9 => k_is); (case a10 => k_is); (case l10 => k_is); (case c10 => k_is); (case k10 => k_is); (case a11 => k_is); (case l11 => k_is); (case c11 => k_is); (case k11 => k_is); (case a12 => k_is); (case l12 => k_is); (case c12 => k_is); (case k12 => k_is); (case a13 => k_is); (case l13 => k_is); (case c13 => k_is); (case k13 => k_is); (case a14 => k_is); (case l14 => k_is); (case c14 => k_is); (case k14 => k_is); (case a15 => k_is); (case l15 => k_is); (case c15 => k_is); (case k15 => k_is); (case a16 => k_is); (case l16 => k_is); (case c16 => k_is); (case k16 => k_is); (case a17 => k_is); (case l17 => k_is); (case c17 => k_is); (case k17 => k_is); (case a18 => k_is); (case l18 => k_is); (case c18 => k_is); (case k18 => k_is); (case a19 => k_is); (case l19 => k_is); (case c19 => k_is); (case k19 => k_is); (case a20 => k_is); (case l20 => k_is); (case c20 => k_is); (case k20 => k_is); (case a21 => k_is); (case l21 => k_is); (case c21 => k_is); (case k21 => k_is); (case a22 => k_is); (case l22 => k_is); (case c22 => k_is); (case k22 => k_is); (case z0 => k_is); (case z1 => k_is); (case z2 => k_is); (case z3 => k_is); (case z4 => k_is); (case z5 => k_is); (case z6 => k_is); (case z7 => k_is); (case z8 => k_is); (case z9 => k_is); (case z10 => k_is); (case z11 => k_is); (case i0 => k_is); (case i1 => k_is); (case i2 => k_is); (case t0 => k_is); (case u0 => k_is); (case n0 => k_is); (case q_cN => k_exc); (case kk_cN => k_is); (case r_cN => kernel_rfl)
