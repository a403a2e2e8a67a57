import PyProof.Rows.All
import Wide.All
import OpenK.AllK
import Wide.FinOn
import HandS.ForMost
import HandS.IsInst
import HandS.SetFor
import HandS.Wide
import HandS.Defaults
import HandS.DictTup
import HandS.Lambda
import HandS.EndTab
import HandS.ExcIs
import HandS.ForExc
import HandS.Deep
import KE.DataFind
import PyProof.ReprRoads
import PyProof.ReprLen
import HandS.More
import HandS.EndBits
import KE.KNestM
import PySem.Challenge.RW_twoalone_k12_known_refused
set_option Elab.async false
set_option maxRecDepth 100000
set_option maxHeartbeats 4000000
namespace TA
open PySem L2 PyProof.Rows
set_option linter.unusedVariables false
def top (i : Nat) : Stmt := PySem.Challenge.pw_twoalone_k12_known_refused.main.body.getD i (.Pass ⟨0, 0, 0, 0⟩)
abbrev sWhole : Stmt := top 2
abbrev sWithin : Stmt := top 3
abbrev sHand : Stmt := top 4
abbrev s_AloneError : Stmt := top 6
abbrev s_NoRounds : Stmt := top 7
abbrev s_NoInputs : Stmt := top 8
abbrev s_NoWeaving : Stmt := top 9
abbrev s_NoKnown : Stmt := top 10
abbrev sInputs : Stmt := top 15
abbrev sWeaving : Stmt := top 16
abbrev sPut : Stmt := top 17
abbrev sKnown : Stmt := top 18
abbrev sWeav : Stmt := top 19
abbrev sCell : Stmt := top 21
abbrev sWell : Stmt := top 22
abbrev sDraw : Stmt := top 23
abbrev sOne : Stmt := top 24
abbrev sLawWeav : Stmt := top 25
abbrev sSaid : Stmt := top 26
abbrev sSpoilt : Stmt := top 27
abbrev sRight : Stmt := top 28
abbrev sLaw : Stmt := top 29

structure Txt (K : PySem.W.Frag) (mg : Str → Option Value) : Prop where
  isi : mg "isinstance" = none
  int : mg "int" = none
  bool : mg "bool" = none
  len : mg "len" = none
  range : mg "range" = none
  list : mg "list" = none
  tuple : mg "tuple" = none
  all : mg "all" = none
  sum : mg "sum" = none
  min : mg "min" = none
theorem same_new {H : Hp} {p : Addr} (h : H p = none) (o : HO) : Same H (upd H p o) := fun b u q => by rw [upd_ne (ne_of_none q h)]; exact q

/-! the small promises -/
def spWhole : Sp := fun vs H Q _ => ∃ n : Int, vs = [.int n] ∧ Q (.bl true) H
def spWithin : Sp := fun vs H Q _ => ∃ a b c : Int, vs = [.int a, .int b, .int c] ∧ Q (.bl (decide (b ≤ a ∧ a ≤ c))) H
def spCell (K : PySem.W.Frag) : Sp := fun vs H Q _ => ∃ (a : Addr) (ns : List Int) (k : Int), vs = [.ref a, .int k] ∧ SqL K H a (ns.map V.int) ∧ ns.length ≤ 1000 ∧ 0 ≤ k ∧ ∀ c : Int, Q (.int c) H
def spWell : Sp := fun vs H Q _ => ∃ c : Int, vs = [.int c] ∧ ∀ (p : Addr) (x y : Int), H p = none → 0 ≤ x → 0 ≤ y → y < 2147483629 → Q (.ref p) (upd H p (.lst [.int x, .int y, .int 0]))
def spDraw : Sp := fun vs H Q _ => ∃ (a : Addr) (x y z m : Int), vs = [.ref a, .int m] ∧ H a = some (.lst [.int x, .int y, .int z]) ∧ 0 ≤ x ∧ 0 ≤ y ∧ y < 2147483629 ∧ 0 ≤ z ∧ z < 1000000 ∧ 0 < m ∧ m < 2 ^ 100 ∧
  ∀ (r x' z' : Int), 0 ≤ r → r < m → 0 ≤ x' → z ≤ z' → z' ≤ z + 1 → Q (.int r) (upd H a (.lst [.int x', .int y, .int z']))
section
variable {P : Program} {w : World} {K : PySem.W.Frag} {mg : Str → Option Value} {base : Heap}

theorem scWhole : FnScope ["thing"] ["thing"] (defScope sWhole) := ⟨rfl, rfl, rfl, by decide +kernel, rfl, by decide +kernel, by decide +kernel⟩
theorem ok_whole {f : Addr} {fd : FuncData} (F : Fun K "is_whole" "is_whole" sWhole f fd) (T : Txt K mg) : FnOk P w K mg base CX0 1 f fd ["thing"] spWhole := by
  refine F.ok scWhole (fun vs H Q E h => ?_) (fun cdv A outer s H vs Q E hr h => ?_)
  · obtain ⟨n, rfl, _⟩ := h
    rfl
  obtain ⟨n, rfl, q⟩ := h
  refine ⟨_, pss_one (ps_ret (pe_and (pe_callB call_isi (by rfl) T.isi boot_isinstance (pa_cons (pv 0) (pa_cons (pe_bltn (v := .ty "int") (by rfl) T.int boot_int rfl) pa_nil)))
    (pe_one (pe_not (pe_callB call_isi (by rfl) T.isi boot_isinstance (pa_cons (pv 0) (pa_cons (pe_bltn (v := .ty "bool") (by rfl) T.bool boot_bool rfl) pa_nil))))))), ?_⟩
  refine ⟨_, rfl, V.int n, V.ty "int", _, _, true, rfl, .ty "int", .base (.int n), kit_ty (by decide +kernel), true, rfl, iteT ?_⟩
  exact ⟨_, rfl, V.int n, V.ty "bool", _, _, false, rfl, .ty "bool", .base (.int n), kit_ty (by decide +kernel), false, rfl, q⟩

theorem scWithin : FnScope ["thing", "least", "most"] ["thing", "least", "most"] (defScope sWithin) := ⟨rfl, rfl, rfl, by decide +kernel, rfl, by decide +kernel, by decide +kernel⟩
theorem ok_within {f g : Addr} {fd gd : FuncData} (F : Fun K "is_whole_within" "is_whole_within" sWithin f fd) (G : FnOk P w K mg base CX0 1 g gd ["thing"] spWhole) (bG : Binds K gd ["thing"] []) (kG : PySem.W.keepIn K (.ref g) = true) (mG : mg "is_whole" = some (.ref g)) :
    FnOk P w K mg base CX0 2 f fd ["thing", "least", "most"] spWithin := by
  refine F.ok scWithin (fun vs H Q E h => ?_) (fun cdv A outer s H vs Q E hr h => ?_)
  · obtain ⟨a, b, c, rfl, _⟩ := h
    rfl
  obtain ⟨a, b, c, rfl, q⟩ := h
  refine ⟨_, pss_one (ps_ret (pe_and (pe_call G hr rfl mG kG bG .nil pass0 (pa_cons (pv 0) pa_nil)) (pe_one (pe_chain op_le op_le (pv 1) (pv 0) (pv 2))))), ?_⟩
  refine ⟨_, rfl, a, rfl, true, rfl, iteT ?_⟩
  refine ⟨_, rfl, _, rfl, _, _, rfl, rfl, _, rfl, ?_⟩
  by_cases h1 : b ≤ a
  · rw [decide_eq_true h1]
    refine iteT ?_
    refine ⟨_, rfl, _, _, rfl, rfl, ?_⟩
    have e : decide (b ≤ a ∧ a ≤ c) = decide (a ≤ c) := by simp [h1]
    rw [e] at q
    exact q
  · rw [decide_eq_false h1]
    refine iteF ?_
    have e : decide (b ≤ a ∧ a ≤ c) = false := by simp [h1]
    rw [e] at q
    exact q

theorem scCell : FnScope ["_law_script", "_law_k"] ["_law_script", "_law_k"] (defScope sCell) := ⟨rfl, rfl, rfl, by decide +kernel, rfl, by decide +kernel, by decide +kernel⟩
theorem ok_cell {f : Addr} {fd : FuncData} (F : Fun K "_law_cell_at" "_law_cell_at" sCell f fd) (T : Txt K mg) : FnOk P w K mg base CX0 1 f fd ["_law_script", "_law_k"] (spCell K) := by
  refine F.ok scCell (fun vs H Q E h => ?_) (fun cdv A outer s H vs Q E hr h => ?_)
  · obtain ⟨a, ns, k, rfl, _⟩ := h
    rfl
  obtain ⟨a, ns, k, rfl, hS, hn, hk, q⟩ := h
  refine ⟨_, pss_cons (ps_if (pt_cmpR op_lt (pv 1) (pe_callB call_len_seq (by rfl) T.len PySem.boot_len (pa_cons (pv 0) pa_nil)) (nomark _)) (pss_one (ps_ret (pe_ix ix_list (pv 0) (pv 1) (fun _ _ => rfl)))) pss_nil)
    (pss_one (ps_ret pe_int)), ?_⟩
  refine ⟨_, rfl, _, rfl, a, _, rfl, .inl hS, _, _, rfl, rfl, _, rfl, ?_⟩
  refine ite2 (fun c => ?_) (fun c => ?_)
  · have c' : k < (((ns.map V.int).length : Nat) : Int) := of_decide_eq_true c
    rw [List.length_map] at c'
    have hk' : k.toNat < ns.length := by omega
    have ek : k = ((k.toNat : Nat) : Int) := by omega
    have g : atI (ns.map V.int) ((k.toNat : Nat) : Int) = some (.int ns[k.toNat]) := atI_nat (by rw [List.getElem?_map, List.getElem?_eq_getElem hk'] <;> rfl)
    rw [← ek] at g
    exact ⟨_, rfl, _, rfl, a, _, _, _, rfl, rfl, hS, g, q _⟩
  · exact q 0

theorem scWell : FnScope ["_law_cell"] ["_law_cell"] (defScope sWell) := ⟨rfl, rfl, rfl, by decide +kernel, rfl, by decide +kernel, by decide +kernel⟩
theorem ok_well {f : Addr} {fd : FuncData} (F : Fun K "_law_well" "_law_well" sWell f fd) (T : Txt K mg) : FnOk P w K mg base CX0 1 f fd ["_law_cell"] spWell := by
  refine F.ok scWell (fun vs H Q E h => ?_) (fun cdv A outer s H vs Q E hr h => ?_)
  · obtain ⟨c, rfl, _⟩ := h
    rfl
  obtain ⟨c, rfl, q⟩ := h
  refine ⟨_, pss_one (ps_ret (pe_lst (pa_cons (pe_op op_mul (pv 0) (pe_callTy call_int1 (by rfl) T.int boot_int (pa_cons (pe_cmpR op_ge (pv 0) (pe_op op_pow pe_int pe_int) (nomark _)) pa_nil)))
    (pa_cons (pe_op op_mod (pv 0) pe_int) (pa_cons pe_int pa_nil))))), ?_⟩
  refine ⟨_, rfl, _, rfl, _, _, rfl, rfl, ⟨by decide, by decide, by decide⟩, _, _, rfl, rfl, .inr ⟨_, rfl, ?_⟩⟩
  have b : ∀ k : Bool, CMul c (if k = true then 1 else 0) := fun k => .inr (by cases k <;> decide)
  refine ⟨_, _, rfl, rfl, b _, _, rfl, _, _, rfl, rfl, (by show (0 : Int) < 2147483629; decide), (by show 3 ≤ sizeLine; decide), fun p hp => ?_⟩
  have m0 : 0 ≤ c % 2147483629 := Int.emod_nonneg _ (by decide)
  have m1 : c % 2147483629 < 2147483629 := Int.emod_lt_of_pos _ (by decide)
  refine q p _ _ hp ?_ m0 m1
  by_cases hc : c ≥ 10 ^ (18 : Int).toNat
  · rw [decide_eq_true hc]
    have : (0 : Int) ≤ 10 ^ (18 : Int).toNat := by decide
    show 0 ≤ c * 1
    omega
  · rw [decide_eq_false hc]
    show 0 ≤ c * 0
    omega

theorem scDraw : FnScope ["_law_well_here", "_law_many", "_law_found", "_law_number"] ["_law_well_here", "_law_many"] (defScope sDraw) := ⟨rfl, rfl, rfl, by decide +kernel, rfl, by decide +kernel, by decide +kernel⟩
theorem ok_draw {f : Addr} {fd : FuncData} (F : Fun K "_law_draw" "_law_draw" sDraw f fd) : FnOk P w K mg base CX0 1 f fd ["_law_well_here", "_law_many"] spDraw := by
  refine F.ok scDraw (fun vs H Q E h => ?_) (fun cdv A outer s H vs Q E hr h => ?_)
  · obtain ⟨a, x, y, z, m, rfl, _⟩ := h
    rfl
  obtain ⟨a, x, y, z, m, rfl, hL, hx, hy, hy2, hz, hz2, hm, hm2, q⟩ := h
  have nd := scDraw.nd
  refine ⟨_, pss_cons (ps_if (pt_cmpR op_gt (pe_ix ix_list (pv 0) pe_int (fun _ _ => rfl)) pe_int (nomark _))
      (pss_cons (ps_set (i := 2) nd rfl (Or.inl rfl) (pe_op op_mod (pe_ix ix_list (pv 0) pe_int (fun _ _ => rfl)) (pv 1)))
        (pss_cons (ps_asg (pe_op op_fdivW (pe_ix ix_list (pv 0) pe_int (fun _ _ => rfl)) (pv 1)) (pg_sub (pv 0) pe_int set_list))
          (pss_one (ps_ret (pv 2))))) pss_nil)
    (pss_cons (ps_asg (pe_op op_add (pe_ix ix_list (pv 0) pe_int (fun _ _ => rfl)) pe_int) (pg_sub (pv 0) pe_int set_list))
    (pss_cons (ps_set (i := 3) nd rfl (Or.inl rfl) (pe_op op_mod (pe_op op_mul (pe_op op_add (pe_op op_add (pe_ix ix_list (pv 0) pe_int (fun _ _ => rfl)) (pe_op op_mul pe_int (pe_ix ix_list (pv 0) pe_int (fun _ _ => rfl)))) pe_int) pe_int) pe_int))
    (pss_cons (ps_set (i := 3) nd rfl (Or.inl rfl) (pe_op op_mod (pe_op op_mul (pv 3) (pe_op op_add (pe_op op_add (pe_op op_fdiv (pv 3) pe_int) pe_int) (pe_ix ix_list (pv 0) pe_int (fun _ _ => rfl)))) pe_int))
    (pss_one (ps_ret (pe_op op_mod (pe_op op_fdiv (pe_op op_mod (pe_op op_mul (pv 3) (pe_op op_add (pe_op op_fdiv (pv 3) pe_int) pe_int)) pe_int) pe_int) (pv 1))))))), ?_⟩
  refine ⟨_, rfl, a, _, _, _, rfl, rfl, SqL.of hL, rfl, _, _, rfl, rfl, _, rfl, ?_⟩
  refine ite2 (fun c => ?_) (fun c => ?_)
  · have c' : x > 0 := of_decide_eq_true c
    refine ⟨_, rfl, a, _, _, _, rfl, rfl, SqL.of hL, rfl, _, rfl, _, _, rfl, rfl, hm, ?_⟩
    refine ⟨_, rfl, a, _, _, _, rfl, rfl, SqL.of hL, rfl, _, rfl, _, _, rfl, rfl, wide_div (b := 100) hm (by omega) (by decide) (by decide), ?_⟩
    refine ⟨_, rfl, a, _, _, 0, rfl, rfl, hL, rfl, _, rfl, ?_⟩
    exact q _ _ _ (Int.emod_nonneg _ (by omega)) (Int.emod_lt_of_pos _ hm) (Int.ediv_nonneg hx (by omega)) (Int.le_refl _) (by omega)
  · have hL2 : (upd H a (.lst [.int x, .int y, .int (z + 1)])) a = some (.lst [.int x, .int y, .int (z + 1)]) := upd_same
    refine ⟨_, rfl, a, _, _, _, rfl, rfl, SqL.of hL, rfl, _, _, rfl, rfl, ?_⟩
    refine ⟨_, rfl, a, _, _, 2, rfl, rfl, hL, rfl, ?_⟩
    refine ⟨_, rfl, a, _, _, _, rfl, rfl, SqL.of hL2, rfl, _, rfl, a, _, _, _, rfl, rfl, SqL.of hL2, rfl, _, _, rfl, rfl, .inl ⟨by decide, by decide⟩, _, _, rfl, rfl, _, _, rfl, rfl, _, _, rfl, rfl, .inr ⟨by decide, by decide⟩, _, _, rfl, rfl, (by show (0 : Int) < 2147483629; decide), ?_⟩
    have n0 := Int.emod_nonneg ((y + 86969 * (z + 1) + 1) * 48271) (show (2147483629 : Int) ≠ 0 by decide)
    have n1 := Int.emod_lt_of_pos ((y + 86969 * (z + 1) + 1) * 48271) (show (0 : Int) < 2147483629 by decide)
    generalize ((y + 86969 * (z + 1) + 1) * 48271) % 2147483629 = n at n0 n1 ⊢
    refine ⟨_, rfl, _, rfl, _, _, rfl, rfl, ⟨by decide, by decide⟩, _, _, rfl, rfl, _, rfl, a, _, _, _, rfl, rfl, SqL.of hL2, rfl, _, _, rfl, rfl, _, _, rfl, rfl, .inl ⟨by omega, by omega⟩, _, _, rfl, rfl, (by show (0 : Int) < 2147483587; decide), ?_⟩
    have k0 := Int.emod_nonneg (n * (n / 1013 + 69623 + (z + 1))) (show (2147483587 : Int) ≠ 0 by decide)
    have k1 := Int.emod_lt_of_pos (n * (n / 1013 + 69623 + (z + 1))) (show (0 : Int) < 2147483587 by decide)
    generalize (n * (n / 1013 + 69623 + (z + 1))) % 2147483587 = k at k0 k1 ⊢
    refine ⟨_, rfl, _, rfl, _, _, rfl, rfl, ⟨by decide, by decide⟩, _, _, rfl, rfl, _, _, rfl, rfl, .inl ⟨by omega, by omega⟩, _, _, rfl, rfl, (by show (0 : Int) < 2147483563; decide), _, _, rfl, rfl, ⟨by decide, by decide⟩, _, rfl, _, _, rfl, rfl, hm, ?_⟩
    exact q _ _ _ (Int.emod_nonneg _ (by omega)) (Int.emod_lt_of_pos _ hm) hx (by omega) (by omega)

/-- _law_one: SOME item of the list -/
def spOne (K : PySem.W.Frag) : Sp := fun vs H Q _ => ∃ (a l : Addr) (x y z : Int) (xs : List V), vs = [.ref a, .ref l] ∧ H a = some (.lst [.int x, .int y, .int z]) ∧ 0 ≤ x ∧ 0 ≤ y ∧ y < 2147483629 ∧ 0 ≤ z ∧ z < 1000000 ∧ H l = some (.lst xs) ∧ a ≠ l ∧ 0 < xs.length ∧ xs.length < 1000 ∧
  ∀ (i : Nat) (v : V) (x' z' : Int), xs[i]? = some v → 0 ≤ x' → z ≤ z' → z' ≤ z + 1 → Q v (upd H a (.lst [.int x', .int y, .int z']))
theorem scOne : FnScope ["_law_well_here", "_law_some"] ["_law_well_here", "_law_some"] (defScope sOne) := ⟨rfl, rfl, rfl, by decide +kernel, rfl, by decide +kernel, by decide +kernel⟩
theorem ok_one {f g : Addr} {fd gd : FuncData} (F : Fun K "_law_one" "_law_one" sOne f fd) (T : Txt K mg) (G : FnOk P w K mg base CX0 1 g gd ["_law_well_here", "_law_many"] spDraw) (bG : Binds K gd ["_law_well_here", "_law_many"] []) (kG : PySem.W.keepIn K (.ref g) = true) (mG : mg "_law_draw" = some (.ref g)) :
    FnOk P w K mg base CX0 2 f fd ["_law_well_here", "_law_some"] (spOne K) := by
  refine F.ok scOne (fun vs H Q E h => ?_) (fun cdv A outer s H vs Q E hr h => ?_)
  · obtain ⟨a, l, x, y, z, xs, rfl, _⟩ := h
    rfl
  obtain ⟨a, l, x, y, z, xs, rfl, hL, hx, hy, hy2, hz, hz2, hl, hal, hn0, hn1, q⟩ := h
  refine ⟨_, pss_one (ps_ret (pe_ix ix_list (pv 1) (pe_call G hr rfl mG kG bG .nil pass0 (pa_cons (pv 0) (pa_cons (pe_callB call_len_seq (by rfl) T.len PySem.boot_len (pa_cons (pv 1) pa_nil)) pa_nil))) (fun _ _ => rfl))), ?_⟩
  refine ⟨_, rfl, _, rfl, _, rfl, l, _, rfl, .inl (SqL.of hl), a, x, y, z, _, rfl, hL, hx, hy, hy2, hz, hz2, by omega, by omega, fun r x' z' r0 r1 x0 z0 z1 => ?_⟩
  have hr' : r.toNat < xs.length := by omega
  have er : r = ((r.toNat : Nat) : Int) := by omega
  have g : atI xs ((r.toNat : Nat) : Int) = some xs[r.toNat] := atI_nat (List.getElem?_eq_getElem hr')
  rw [← er] at g
  exact ⟨l, _, _, _, rfl, rfl, SqL.of (by rw [upd_ne hal.symm]; exact hl), g, q r.toNat _ _ _ (List.getElem?_eq_getElem hr') x0 z0 z1⟩
end
end TA

set_option Elab.async false
set_option maxRecDepth 100000
set_option maxHeartbeats 4000000
namespace TA
open PySem L2 PyProof.Rows
set_option linter.unusedVariables false
/-! what a hand knows, on the heap: ints, None, tuples of two -/
inductive Kn (H : Hp) : V → PyData → Prop
  | int (i : Int) : Kn H (.int i) (.int i)
  | non : Kn H .non .none
  | tup {a : Addr} {x y : V} {d e : PyData} : H a = some (.tup [x, y]) → Kn H x d → Kn H y e → Kn H (.ref a) (.tuple [d, e])
/-- all tuples stand as they stood -/
def Tups (H H' : Hp) : Prop := ∀ a xs, H a = some (.tup xs) → H' a = some (.tup xs)
theorem Kn.mono {H H' : Hp} (s : Tups H H') : ∀ {v d}, Kn H v d → Kn H' v d
  | _, _, .int i => .int i
  | _, _, .non => .non
  | _, _, .tup h a b => .tup (s _ _ h) (a.mono s) (b.mono s)
theorem Kn.dp {K : PySem.W.Frag} {H : Hp} : ∀ {v d}, Kn H v d → Dp K H v d
  | _, _, .int i => .int i
  | _, _, .non => .non
  | _, _, .tup h a b => .tup (SqT.of h) (.cons a.dp (.cons b.dp .nil))
theorem Tups.same {H H' : Hp} (s : Same H H') : Tups H H' := fun a xs h => s _ _ h
theorem Tups.updL {H : Hp} {p : Addr} {xs : List V} {o : HO} (h : H p = some (.lst xs)) : Tups H (upd H p o) := fun a ys e => by
  rw [upd_ne (ne_of e h (fun q => by cases q))]
  exact e
theorem Tups.updD {H : Hp} {p : Addr} {kvs : List (List Key × V)} {o : HO} (h : H p = some (.dT kvs)) : Tups H (upd H p o) := fun a ys e => by
  rw [upd_ne (ne_of e h (fun q => by cases q))]
  exact e
theorem Tups.trans {H H1 H2 : Hp} (a : Tups H H1) (b : Tups H1 H2) : Tups H H2 := fun x xs h => b _ _ (a _ _ h)
inductive KnAll (H : Hp) : List V → List PyData → Prop
  | nil : KnAll H [] []
  | cons {v vs d ds} : Kn H v d → KnAll H vs ds → KnAll H (v :: vs) (d :: ds)
theorem KnAll.mono {H H' : Hp} (s : Tups H H') : ∀ {vs ds}, KnAll H vs ds → KnAll H' vs ds
  | _, _, .nil => .nil
  | _, _, .cons a b => .cons (a.mono s) (b.mono s)
theorem KnAll.len {H : Hp} : ∀ {vs ds}, KnAll H vs ds → vs.length = ds.length
  | _, _, .nil => rfl
  | _, _, .cons _ b => congrArg (· + 1) b.len
theorem KnAll.snoc {H : Hp} {v d} (k : Kn H v d) : ∀ {vs ds}, KnAll H vs ds → KnAll H (vs ++ [v]) (ds ++ [d])
  | _, _, .nil => .cons k .nil
  | _, _, .cons a b => .cons a (b.snoc k)
theorem KnAll.getD {H : Hp} : ∀ {vs ds} (t : Nat), KnAll H vs ds → Kn H (vs.getD t .non) (ds.getD t .none)
  | _, _, _, .nil => by simp; exact .non
  | _, _, 0, .cons a b => by simpa using a
  | _, _, t + 1, .cons a b => by simpa using b.getD t

/-! the mirror -/
def upf {α : Type} (f : Nat → α) (h : Nat) (x : α) : Nat → α := fun i => if i = h then x else f i
theorem upf_same {α : Type} {f : Nat → α} {h : Nat} {x : α} : upf f h x h = x := by unfold upf; rw [if_pos rfl]
theorem upf_ne {α : Type} {f : Nat → α} {h i : Nat} {x : α} (e : i ≠ h) : upf f h x i = f i := by unfold upf; rw [if_neg e]
theorem two_get {α : Type} (f : Nat → α) {h : Nat} (hh : h < 2) : [f 0, f 1][h]? = some (f h) := by
  rcases h with _ | _ | h
  · rfl
  · rfl
  · omega
theorem two_set {α : Type} (f : Nat → α) {h : Nat} (hh : h < 2) (x : α) : [f 0, f 1].set h x = [upf f h x 0, upf f h x 1] := by
  rcases h with _ | _ | h
  · rfl
  · rfl
  · omega
structure M where
  k : Nat → PyData
  c : Nat → List PyData
  l : Nat → Nat
def M.step (m : M) (h : Nat) : M :=
  if m.l h < (m.c h).length then { k := upf m.k h (.tuple [m.k h, (m.c (1 - h)).getD (m.l h) .none]), c := m.c, l := upf m.l h (m.l h + 1) }
  else { k := m.k, c := upf m.c h (m.c h ++ [m.k h]), l := m.l }
def M.run (m : M) (hs : List Nat) : M := hs.foldl M.step m
def M.done (m : M) (h : Nat) : Nat := m.l h + (m.c h).length
def M0 (a b : Int) : M := { k := fun h => if h = 0 then .int a else .int b, c := fun _ => [], l := fun _ => 0 }
def M.wf (m : M) : Prop := ∀ h < 2, (m.c h).length = m.l h ∨ (m.c h).length = m.l h + 1
theorem M.wf0 (a b : Int) : (M0 a b).wf := fun h _ => .inl rfl
theorem M.wf_step {m : M} (w : m.wf) {h : Nat} (hh : h < 2) : (m.step h).wf := fun i hi => by
  unfold M.step
  have wi := w i hi
  have wh := w h hh
  by_cases c : m.l h < (m.c h).length
  · rw [if_pos c]
    show (m.c i).length = upf m.l h (m.l h + 1) i ∨ (m.c i).length = upf m.l h (m.l h + 1) i + 1
    by_cases e : i = h
    · subst e; rw [upf_same]; omega
    · rw [upf_ne e]; exact wi
  · rw [if_neg c]
    show (upf m.c h (m.c h ++ [m.k h]) i).length = m.l i ∨ (upf m.c h (m.c h ++ [m.k h]) i).length = m.l i + 1
    by_cases e : i = h
    · subst e; rw [upf_same, List.length_append]; show _ + 1 = _ ∨ _ + 1 = _; omega
    · rw [upf_ne e]; exact wi
theorem M.done_step (m : M) (h i : Nat) : (m.step h).done i = m.done i + (if i = h then 1 else 0) := by
  unfold M.step M.done
  by_cases c : m.l h < (m.c h).length
  · rw [if_pos c]
    show upf m.l h (m.l h + 1) i + (m.c i).length = _
    by_cases e : i = h
    · subst e; rw [upf_same, if_pos rfl]; omega
    · rw [upf_ne e, if_neg e]; rfl
  · rw [if_neg c]
    show m.l i + (upf m.c h (m.c h ++ [m.k h]) i).length = _
    by_cases e : i = h
    · subst e; rw [upf_same, if_pos rfl, List.length_append]; show _ + (_ + 1) = _; omega
    · rw [upf_ne e, if_neg e]; rfl
theorem M.run_snoc (m : M) (hs : List Nat) (h : Nat) : m.run (hs ++ [h]) = (m.run hs).step h := by
  unfold M.run
  rw [List.foldl_append]
  rfl
theorem M.done_run (m : M) (i : Nat) : ∀ hs : List Nat, (m.run hs).done i = m.done i + hs.count i := by
  intro hs
  induction hs generalizing m with
  | nil => rfl
  | cons h r ih =>
    show ((m.step h).run r).done i = _
    rw [ih, M.done_step, List.count_cons]
    by_cases e : i = h
    · subst e; simp; omega
    · have e2 : ¬ h = i := fun q => e q.symm
      simp [e, e2]
theorem M.wf_run {m : M} (w : m.wf) : ∀ {hs : List Nat}, (∀ h ∈ hs, h < 2) → (m.run hs).wf := by
  intro hs
  induction hs generalizing m with
  | nil => intro _; exact w
  | cons h r ih => intro q; exact ih (M.wf_step w (q h List.mem_cons_self)) (fun x hx => q x (List.mem_cons_of_mem _ hx))
/-- data as they may be compared -/
def Ok (n : Nat) (d : PyData) : Prop := d.canLay0 = true ∧ d.depth ≤ n
theorem Ok.up {n m : Nat} {d : PyData} (h : Ok n d) (e : n ≤ m) : Ok m d := ⟨h.1, Nat.le_trans h.2 e⟩
theorem Ok.pair {n : Nat} {d e : PyData} (h : Ok n d) (g : Ok n e) : Ok (n + 1) (.tuple [d, e]) := by
  refine ⟨?_, ?_⟩
  · simp [PyData.canLay0, PyData.canLayAll0, h.1, g.1]
  · have h2 := h.2
    have g2 := g.2
    simp only [PyData.depth, PyData.depthAll]
    omega
theorem Ok.lst {n : Nat} {d e : PyData} (h : Ok n d) (g : Ok n e) : Ok (n + 1) (.list [d, e]) := by
  refine ⟨?_, ?_⟩
  · simp [PyData.canLay0, PyData.canLayAll0, h.1, g.1]
  · have h2 := h.2
    have g2 := g.2
    simp only [PyData.depth, PyData.depthAll]
    omega
theorem Ok.shaped {d : PyData} (h : Ok 64 d) : SeqAt.shaped d = true := by
  unfold SeqAt.shaped
  rw [h.1, decide_eq_true h.2]
  rfl
end TA

set_option Elab.async false
set_option maxRecDepth 100000
set_option maxHeartbeats 4000000
namespace TA
open PySem L2 PyProof.Rows
set_option linter.unusedVariables false
def M.ok (n : Nat) (m : M) : Prop := ∀ h < 2, Ok n (m.k h) ∧ ∀ d ∈ m.c h, Ok n d
theorem ok_int {n : Nat} (i : Int) (h : 0 < n) : Ok n (.int i) := ⟨rfl, by show PyData.depth (.int i) ≤ n; simp only [PyData.depth]; omega⟩
theorem ok_none {n : Nat} (h : 0 < n) : Ok n .none := ⟨rfl, by show PyData.depth .none ≤ n; simp only [PyData.depth]; omega⟩
theorem M.ok0 (a b : Int) : (M0 a b).ok 1 := fun h _ => ⟨by
  show Ok 1 (if h = 0 then .int a else .int b)
  split
  · exact ok_int a (by decide)
  · exact ok_int b (by decide), fun d hd => by cases hd⟩
theorem M.ok_step {n : Nat} {m : M} (o : m.ok n) (h0 : 0 < n) {h : Nat} (hh : h < 2) : (m.step h).ok (n + 1) := fun i hi => by
  unfold M.step
  by_cases c : m.l h < (m.c h).length
  · rw [if_pos c]
    refine ⟨?_, fun d hd => ((o i hi).2 d hd).up (by omega)⟩
    show Ok (n + 1) (upf m.k h _ i)
    by_cases e : i = h
    · subst e
      rw [upf_same]
      refine Ok.pair (o i hi).1 ?_
      cases g : (m.c (1 - i))[m.l i]? with
      | none => rw [List.getD_eq_getElem?_getD, g]; exact ok_none h0
      | some d => rw [List.getD_eq_getElem?_getD, g]; exact (o (1 - i) (by omega)).2 d (List.mem_of_getElem? g)
    · rw [upf_ne e]; exact (o i hi).1.up (by omega)
  · rw [if_neg c]
    refine ⟨(o i hi).1.up (by omega), fun d hd => ?_⟩
    have hd' : d ∈ upf m.c h (m.c h ++ [m.k h]) i := hd
    by_cases e : i = h
    · subst e
      rw [upf_same] at hd'
      rcases List.mem_append.mp hd' with q | q
      · exact ((o i hi).2 d q).up (by omega)
      · have : d = m.k i := by simpa using q
        rw [this]
        exact (o i hi).1.up (by omega)
    · rw [upf_ne e] at hd'; exact ((o i hi).2 d hd').up (by omega)
theorem M.ok_run {hs : List Nat} : ∀ {n : Nat} {m : M}, m.ok n → 0 < n → (∀ h ∈ hs, h < 2) → (m.run hs).ok (n + hs.length) := by
  induction hs with
  | nil => intro n m o _ _; exact o
  | cons h r ih =>
    intro n m o h0 q
    have := ih (M.ok_step o h0 (q h List.mem_cons_self)) (by omega) (fun x hx => q x (List.mem_cons_of_mem _ hx))
    rw [show n + 1 + r.length = n + (h :: r).length by rw [List.length_cons]; omega] at this
    exact this
def M.res (m : M) (deep : Nat) (h : Nat) : PyData := if m.done h = 2 * deep then m.k h else .none
theorem M.res_ok {n : Nat} {m : M} (o : m.ok n) (h0 : 0 < n) (deep : Nat) {h : Nat} (hh : h < 2) : Ok n (m.res deep h) := by
  unfold M.res
  split
  · exact (o h hh).1
  · exact ok_none h0
theorem M.stopped {m : M} (w : m.wf) {deep h : Nat} (hh : h < 2) (hd : m.done h ≤ 2 * deep) : m.l h = deep ↔ m.done h = 2 * deep := by
  have wh := w h hh
  unfold M.done at hd ⊢
  omega
/-- what is told: two places -/
def told (a b : Int) (hs : List Nat) (deep : Nat) : PyData := .list [((M0 a b).run hs).res deep 0, ((M0 a b).run hs).res deep 1]
theorem told_shaped (a b : Int) {hs : List Nat} (q : ∀ h ∈ hs, h < 2) (hz : hs.length ≤ 40) (deep : Nat) : SeqAt.shaped (told a b hs deep) = true := by
  have o := M.ok_run (M.ok0 a b) (by decide) q
  exact ((M.res_ok o (by omega) deep (h := 0) (by decide)).lst (M.res_ok o (by omega) deep (h := 1) (by decide))).up (by omega) |>.shaped
theorem eqv_self {d : PyData} (h : SeqAt.shaped d = true) : PyData.eqv d d = true := SeqAt.eqv_refl d (SeqAt.canLay_of_shaped h)

/-! a walk of n turns, whatever is walked: the word Pv is kept from turn to turn -/
theorem turns {J : It} (n : Nat) {H0 : Hp} {Qd : Hp → Prop} {B : (Hp → Prop) → V → Hp → Prop} (Pv : Nat → Hp → Prop) (start : Pv 0 H0) (last : ∀ H, Pv n H → J.stop n H ∧ Qd H)
    (turn : ∀ i H, i < n → Pv i H → J.go i H ∧ ∀ x H', J.yld i H x H' → B (Pv (i + 1)) x H') :
    ∃ W : Nat → Nat → Hp → Prop, (∃ m, W 0 m H0) ∧ ∀ i m H, W i m H →
      (J.stop i H ∧ Qd H) ∨ (J.go i H ∧ ∃ Nx : Hp → Prop, (∀ H', Nx H' → ∃ m', m' < m ∧ W (i + 1) m' H') ∧ ∀ x H', J.yld i H x H' → B Nx x H') := by
  refine ⟨fun i m H => i + m = n ∧ Pv i H, ⟨n, by omega, start⟩, fun i m H h => ?_⟩
  obtain ⟨hm, word⟩ := h
  cases m with
  | zero =>
    have hin : i = n := by omega
    rw [hin] at word ⊢
    exact Or.inl (last H word)
  | succ m =>
    obtain ⟨go, step⟩ := turn i H (by omega) word
    exact Or.inr ⟨go, Pv (i + 1), fun H' w' => ⟨m, by omega, by omega, w'⟩, step⟩
theorem list_turns {K : PySem.W.Frag} {a : Addr} {xs : List V} {H0 : Hp} {Qd : Hp → Prop} {B : (Hp → Prop) → V → Hp → Prop} (Pv : Nat → Hp → Prop) (start : Pv 0 H0) (still : ∀ i H, i ≤ xs.length → Pv i H → SqL K H a xs)
    (turn : ∀ i x H, xs[i]? = some x → Pv i H → B (Pv (i + 1)) x H) (last : ∀ H, Pv xs.length H → Qd H) :
    ∃ W : Nat → Nat → Hp → Prop, (∃ m, W 0 m H0) ∧ ∀ i m H, W i m H →
      ((Itl K a).stop i H ∧ Qd H) ∨ ((Itl K a).go i H ∧ ∃ Nx : Hp → Prop, (∀ H', Nx H' → ∃ m', m' < m ∧ W (i + 1) m' H') ∧ ∀ x H', (Itl K a).yld i H x H' → B Nx x H') :=
  turns xs.length Pv start (fun H w => ⟨⟨xs, still _ H (Nat.le_refl _) w, Nat.le_refl _⟩, last H w⟩) fun i H hi w =>
    have there := still i H (Nat.le_of_lt hi) w
    ⟨⟨xs, xs[i], there, List.getElem?_eq_getElem hi⟩, fun x H' ⟨same, given⟩ => by rw [same]; exact turn i x H (given xs there) w⟩
theorem tup_turns {K : PySem.W.Frag} {a : Addr} {xs : List V} {H0 : Hp} {Qd : Hp → Prop} {B : (Hp → Prop) → V → Hp → Prop} (Pv : Nat → Hp → Prop) (start : Pv 0 H0) (still : ∀ i H, i ≤ xs.length → Pv i H → SqT K H a xs)
    (turn : ∀ i x H, xs[i]? = some x → Pv i H → B (Pv (i + 1)) x H) (last : ∀ H, Pv xs.length H → Qd H) :
    ∃ W : Nat → Nat → Hp → Prop, (∃ m, W 0 m H0) ∧ ∀ i m H, W i m H →
      ((Itt K a).stop i H ∧ Qd H) ∨ ((Itt K a).go i H ∧ ∃ Nx : Hp → Prop, (∀ H', Nx H' → ∃ m', m' < m ∧ W (i + 1) m' H') ∧ ∀ x H', (Itt K a).yld i H x H' → B Nx x H') :=
  turns xs.length Pv start (fun H w => ⟨⟨xs, still _ H (Nat.le_refl _) w, Nat.le_refl _⟩, last H w⟩) fun i H hi w =>
    have there := still i H (Nat.le_of_lt hi) w
    ⟨⟨xs, xs[i], there, List.getElem?_eq_getElem hi⟩, fun x H' ⟨same, given⟩ => by rw [same]; exact turn i x H (given xs there) w⟩
theorem range_turns {lo : Int} {n : Nat} {H0 : Hp} {Qd : Hp → Prop} {B : (Hp → Prop) → V → Hp → Prop} (Pv : Nat → Hp → Prop) (start : Pv 0 H0)
    (turn : ∀ i H, i < n → Pv i H → B (Pv (i + 1)) (.int (lo + i)) H) (last : ∀ H, Pv n H → Qd H) :
    ∃ W : Nat → Nat → Hp → Prop, (∃ m, W 0 m H0) ∧ ∀ i m H, W i m H →
      ((Itr lo n).stop i H ∧ Qd H) ∨ ((Itr lo n).go i H ∧ ∃ Nx : Hp → Prop, (∀ H', Nx H' → ∃ m', m' < m ∧ W (i + 1) m' H') ∧ ∀ x H', (Itr lo n).yld i H x H' → B Nx x H') :=
  turns n Pv start (fun H w => ⟨Nat.le_refl _, last H w⟩) fun i H hi w => ⟨hi, fun x H' ⟨same, given⟩ => by rw [same, given]; exact turn i H hi w⟩
theorem small13 {n : Nat} (h : n ≤ 100000) : n ≤ sizeLine := Nat.le_trans h (by decide)

/-- xs[i] as an augmented assignment reads it, 0 ≤ i -/
theorem get_list {X : Cx} : PGet X (fun o i H Q => ∃ (p : Addr) (xs : List V) (k : Nat) (v : V), o = .ref p ∧ i = .int (k : Int) ∧ SqL X.K H p xs ∧ xs[k]? = some v ∧ Q v H) := by
  intro pins s σ H o i ov iv Q I ro ri h
  obtain ⟨p, xs, k, v, rfl, rfl, hq, he, q⟩ := h
  cases ro
  obtain ⟨t, rfl⟩ := ri
  obtain ⟨its, r, pl, hz⟩ := I.list hq
  obtain ⟨w, ew, rw'⟩ := r.get he
  have hl := r.length
  have hn := line63
  have hk : k < xs.length := (List.getElem?_eq_some_iff.mp he).1
  refine getItem_listL (l := its) pl.isList (by omega) ?_ (by simpa using ew) ⟨v, H, I, rw', q⟩
  omega
end TA

set_option Elab.async false
set_option maxRecDepth 100000
set_option maxHeartbeats 4000000
namespace TA
open PySem L2 PyProof.Rows
set_option linter.unusedVariables false
structure Txt2 (K : PySem.W.Frag) (mg : Str → Option Value) : Prop where
  two : ∃ t, mg "STEPS" = some (.int 2 t)
  five : ∃ t, mg "MOST_ROUNDS" = some (.int 5 t)
  hands : ∃ hA, mg "HANDS" = some (.ref hA) ∧ ∀ H, SqT K H hA [.int 0, .int 1]
structure Def (P : Program) (w : World) (K : PySem.W.Frag) (mg : Str → Option Value) (base : Heap) (x : Str) (ps : List Str) (k : Nat) (sp : Sp) (f : Addr) (fd : FuncData) : Prop where
  G : FnOk P w K mg base CX0 k f fd ps sp
  b : Binds K fd ps []
  k : PySem.W.keepIn K (.ref f) = true
  m : mg x = some (.ref f)
def spHand : Sp := fun vs H Q _ => ∃ a : Int, vs = [.int a] ∧ Q (.bl (decide (0 ≤ a ∧ a ≤ 1))) H
def spInputs : Sp := fun vs H Q _ => ∃ (t : Addr) (a b : Int), vs = [.ref t] ∧ H t = some (.tup [.int a, .int b]) ∧ 0 ≤ a ∧ 0 ≤ b ∧ ∀ H', Same H H' → Q (.bl true) H'
/-- the list of hands at p -/
def hl (hs : List Nat) : List V := hs.map fun h : Nat => V.int (h : Int)
def spWeaving (K : PySem.W.Frag) : Sp := fun vs H Q _ => ∃ (p : Addr) (hs : List Nat) (d : Nat), vs = [.ref p, .int (d : Int)] ∧ SqL K H p (hl hs) ∧ (∀ h ∈ hs, h < 2) ∧ (∀ h < 2, hs.count h ≤ 2 * d) ∧ hs.length ≤ 1000 ∧ ∀ H', Same H H' → Q (.bl true) H'
def spPut (K : PySem.W.Frag) : Sp := fun vs H Q _ => ∃ (c : Addr) (ws : List V) (t : Nat), vs = [.ref c, .int (t : Int)] ∧ SqL K H c ws ∧ Q (ws.getD t .non) H
theorem hl_ints (hs : List Nat) : hl hs = (hs.map fun h : Nat => (h : Int)).map V.int := by
  unfold hl
  rw [List.map_map]
  rfl
theorem hl_count (hs : List Nat) (h : Nat) : (hs.map fun h : Nat => (h : Int)).count (h : Int) = hs.count h := by
  induction hs with
  | nil => rfl
  | cons x r ih =>
    rw [List.map_cons, List.count_cons, List.count_cons, ih]
    by_cases e : x = h
    · subst e; simp
    · have : ¬ ((x : Int) = (h : Int)) := by omega
      simp [e, this]
theorem all_rep (n : Nat) : (List.replicate n true).all id = true := by
  induction n with
  | zero => rfl
  | succ n ih => rw [List.replicate_succ, List.all_cons, ih]; rfl
theorem rep_snoc (n : Nat) : ((List.replicate n true).map V.bl) ++ [V.bl true] = (List.replicate (n + 1) true).map V.bl := by
  rw [List.replicate_succ', List.map_append]
  rfl
section
variable {P : Program} {w : World} {K : PySem.W.Frag} {mg : Str → Option Value} {base : Heap}
theorem scHand : FnScope ["thing"] ["thing"] (defScope sHand) := ⟨rfl, rfl, rfl, by decide +kernel, rfl, by decide +kernel, by decide +kernel⟩
theorem ok_hand {f g : Addr} {fd gd : FuncData} (F : Fun K "is_hand" "is_hand" sHand f fd) (W : Def P w K mg base "is_whole_within" ["thing", "least", "most"] 2 spWithin g gd) : FnOk P w K mg base CX0 3 f fd ["thing"] spHand := by
  refine F.ok scHand (fun vs H Q E h => ?_) (fun cdv A outer s H vs Q E hr h => ?_)
  · obtain ⟨a, rfl, _⟩ := h
    rfl
  obtain ⟨a, rfl, q⟩ := h
  refine ⟨_, pss_one (ps_ret (pe_call W.G hr rfl W.m W.k W.b .nil pass0 (pa_cons (pv 0) (pa_cons pe_int (pa_cons pe_int pa_nil))))), ?_⟩
  exact ⟨_, rfl, a, 0, 1, rfl, q⟩
theorem scPut : FnScope ["cells", "at"] ["cells", "at"] (defScope sPut) := ⟨rfl, rfl, rfl, by decide +kernel, rfl, by decide +kernel, by decide +kernel⟩
theorem ok_put {f : Addr} {fd : FuncData} (F : Fun K "put_in" "put_in" sPut f fd) (T : Txt K mg) : FnOk P w K mg base CX0 1 f fd ["cells", "at"] (spPut K) := by
  refine F.ok scPut (fun vs H Q E h => ?_) (fun cdv A outer s H vs Q E hr h => ?_)
  · obtain ⟨c, ws, t, rfl, _⟩ := h
    rfl
  obtain ⟨c, ws, t, rfl, hS, q⟩ := h
  refine ⟨_, pss_one (ps_ret (pe_ifExp (pt_cmpR op_lt (pv 1) (pe_callB call_len_seq (by rfl) T.len PySem.boot_len (pa_cons (pv 0) pa_nil)) (nomark _)) (pe_ix ix_list (pv 0) (pv 1) (fun _ _ => rfl)) pe_non)), ?_⟩
  refine ⟨_, rfl, _, rfl, c, _, rfl, .inl hS, _, _, rfl, rfl, _, rfl, ?_⟩
  refine ite2 (fun c1 => ?_) (fun c1 => ?_)
  · have c2 : ((t : Nat) : Int) < ((ws.length : Nat) : Int) := of_decide_eq_true c1
    have ht : t < ws.length := by omega
    have e : ws.getD t .non = ws[t] := by rw [List.getD_eq_getElem?_getD, List.getElem?_eq_getElem ht]; rfl
    rw [e] at q
    exact ⟨_, rfl, _, rfl, c, _, _, _, rfl, rfl, hS, atI_nat (List.getElem?_eq_getElem ht), q⟩
  · have c2 : ¬ ((t : Nat) : Int) < ((ws.length : Nat) : Int) := of_decide_eq_false (Bool.eq_false_iff.mpr c1)
    have e : ws.getD t .non = .non := by rw [List.getD_eq_getElem?_getD, List.getElem?_eq_none (by omega)]; rfl
    rw [e] at q
    exact q
theorem scInputs : FnScope ["thing", "a"] ["thing"] (defScope sInputs) := ⟨rfl, rfl, rfl, by decide +kernel, rfl, by decide +kernel, by decide +kernel⟩
theorem ok_inputs {f g : Addr} {fd gd : FuncData} (F : Fun K "is_inputs" "is_inputs" sInputs f fd) (T : Txt K mg) (W : Def P w K mg base "is_whole" ["thing"] 1 spWhole g gd) : FnOk P w K mg base CX0 2 f fd ["thing"] spInputs := by
  refine F.ok scInputs (fun vs H Q E h => ?_) (fun cdv A outer s H vs Q E hr h => ?_)
  · obtain ⟨t, a, b, rfl, _⟩ := h
    rfl
  obtain ⟨t, a, b, rfl, ht, ha, hb, q⟩ := h
  have nd := scInputs.nd
  refine ⟨_, pss_one (ps_ret (pe_and (pe_callB call_isi (by rfl) T.isi boot_isinstance (pa_cons (pv 0) (pa_cons (pe_bltn (v := .ty "tuple") (by rfl) T.tuple boot_tuple rfl) pa_nil)))
    (pe_and (pe_cmpR op_eq (pe_callB call_len_seq (by rfl) T.len PySem.boot_len (pa_cons (pv 0) pa_nil)) pe_int (nomark _))
    (pe_one (pe_callB (cr_all rfl) (by rfl) T.all (by decide +kernel) (pa_cons
      (pe_lc (own := [("a", 1)]) (g := gName 1) (tt := tYes) (te := tAndV (tCall spWhole [] E0 (tCons (tVar 1) tNil)) (tOp (rI0 fun i j => .bl (decide (i ≥ j))) (tVar 1) (tC (.int 0)))) rfl nd (pi_tup (pv 0)) (blkOk_by (N := ["thing", "a"]) (sc := defScope sInputs) (by decide +kernel)) (fun _ _ _ _ _ => pg_name (i := 1) nd rfl (Or.inl rfl)) (fun _ _ _ _ _ => pts_nil)
        (fun _ _ _ _ _ => (by refine pe_and ?_ (pe_one ?_); (exact pe_call W.G hr rfl W.m W.k W.b .nil pass0 (pa_cons (pv 1) pa_nil)); (exact pe_cmpR op_ge (pv 1) pe_int (nomark _))))) pa_nil)))))), ?_⟩
  refine ⟨_, rfl, .ref t, .ty "tuple", _, _, true, rfl, .ty "tuple", .base (.tup ht), kit_ty (by decide +kernel), true, rfl, iteT ?_⟩
  refine ⟨_, rfl, t, _, rfl, .inr (SqT.of ht), rfl, true, rfl, iteT ?_⟩
  refine ⟨_, rfl, t, rfl, ⟨_, SqT.of ht⟩, fun D hD => ?_⟩
  have s0 := same_new hD (.lst [])
  refine tup_turns (xs := [V.int a, V.int b]) (fun i H' => Same H H' ∧ H' D = some (.lst ((List.replicate i true).map V.bl))) ⟨s0, upd_same⟩ (fun i H' _ h => SqT.of (h.1 _ _ ht)) ?_ ?_
  · rintro i x H' hx ⟨s1, h1⟩
    obtain ⟨z, rfl, hz⟩ : ∃ z : Int, x = .int z ∧ 0 ≤ z := by
      rcases i with _ | _ | i
      · exact ⟨a, by simpa using hx.symm, ha⟩
      · exact ⟨b, by simpa using hx.symm, hb⟩
      · simp at hx
    have hi : i < 2 := (List.getElem?_eq_some_iff.mp hx).1
    refine ⟨rfl, _, rfl, z, rfl, true, rfl, iteT ?_⟩
    refine ⟨_, rfl, _, _, rfl, rfl, _, h1, (by rw [List.length_map, List.length_replicate]; exact Nat.lt_of_lt_of_le hi (by decide)), fun b' o e => ?_, ?_⟩
    · rw [upd_ne (ne_of_none e hD)]
      exact s1 _ _ e
    · rw [upd_same]
      show some (HO.lst (_ ++ [V.bl (decide (z ≥ 0))])) = _
      rw [decide_eq_true (show z ≥ 0 from hz), rep_snoc]
  · rintro H' ⟨s1, h1⟩
    refine ⟨D, _, rfl, SqL.of h1, ?_⟩
    rw [all_rep]
    exact q _ s1
theorem scWeaving : FnScope ["thing", "rounds", "hand"] ["thing", "rounds"] (defScope sWeaving) := ⟨rfl, rfl, rfl, by decide +kernel, rfl, by decide +kernel, by decide +kernel⟩
theorem ok_weaving {f g : Addr} {fd gd : FuncData} (F : Fun K "is_weaving" "is_weaving" sWeaving f fd) (T : Txt K mg) (U : Txt2 K mg) (W : Def P w K mg base "is_hand" ["thing"] 3 spHand g gd) : FnOk P w K mg base CX0 4 f fd ["thing", "rounds"] (spWeaving K) := by
  refine F.ok scWeaving (fun vs H Q E h => ?_) (fun cdv A outer s H vs Q E hr h => ?_)
  · obtain ⟨p, hs, d, rfl, _⟩ := h
    rfl
  obtain ⟨p, hs, d, rfl, hS, hh, hc, hz, q⟩ := h
  obtain ⟨t2, m2⟩ := U.two
  obtain ⟨hA, mH, hH⟩ := U.hands
  have nd := scWeaving.nd
  have ty : TyX K H (.ref p) (.type "list") := by
    rcases hS with h | ⟨o, its, n, h1, h2, _⟩
    · rcases h with h | ⟨o, h⟩
      · exact .base (.lst h)
      · exact .base (.frz h)
    · exact .kList h1 h2
  refine ⟨_, pss_one (ps_ret (pe_and (pe_callB call_isi (by rfl) T.isi boot_isinstance (pa_cons (pv 0) (pa_cons (pe_bltn (v := .ty "list") (by rfl) T.list boot_list rfl) pa_nil)))
    (pe_and (pe_callB (cr_all rfl) (by rfl) T.all (by decide +kernel) (pa_cons
      (pe_lc (own := [("hand", 2)]) (g := gName 2) (tt := tYes) (te := tCall spHand [] E0 (tCons (tVar 2) tNil)) rfl nd (pi_list (pv 0)) (blkOk_by (N := ["thing", "rounds", "hand"]) (sc := defScope sWeaving) (by decide +kernel)) (fun _ _ _ _ _ => pg_name (i := 2) nd rfl (Or.inl rfl)) (fun _ _ _ _ _ => pts_nil)
        (fun _ _ _ _ _ => (by exact pe_call W.G hr rfl W.m W.k W.b .nil pass0 (pa_cons (pv 2) pa_nil)))) pa_nil))
    (pe_one (pe_callB (cr_all rfl) (by rfl) T.all (by decide +kernel) (pa_cons
      (pe_lc (own := [("hand", 2)]) (g := gName 2) (tt := tYes) (te := tOp (rI0 fun i j => .bl (decide (i ≤ j))) (tBM K "list" (rCntI K) (tVar 0) (tCons (tVar 2) tNil)) (tOp (rI CMul fun i j => .int (i * j)) (tC (.int 2)) (tVar 1))) rfl nd (pi_tup (pe_glob (v := .ref hA) rfl mH rfl)) (blkOk_by (N := ["thing", "rounds", "hand"]) (sc := defScope sWeaving) (by decide +kernel)) (fun _ _ _ _ _ => pg_name (i := 2) nd rfl (Or.inl rfl)) (fun _ _ _ _ _ => pts_nil)
        (fun _ _ _ _ _ => (by refine pe_cmpR op_le ?_ (pe_op op_mul ?_ (pv 1)) (nomark _); (exact pe_bm PySem.F.plainAttrs_list PySem.F.slot_list_count PySem.F.type_list_count mt_lcount (pv 0) (pa_cons (pv 2) pa_nil)); (exact pe_glob (v := .int 2) rfl m2 ⟨_, rfl⟩)))) pa_nil)))))), ?_⟩
  refine ⟨_, rfl, .ref p, .ty "list", _, _, true, rfl, .ty "list", ty, kit_ty (by decide +kernel), true, rfl, iteT ?_⟩
  refine ⟨_, rfl, p, rfl, ⟨_, hS⟩, fun D hD => ?_⟩
  have lenH : (hl hs).length = hs.length := List.length_map _
  refine list_turns (xs := hl hs) (fun i H' => Same H H' ∧ H' D = some (.lst ((List.replicate i true).map V.bl))) ⟨same_new hD _, upd_same⟩ (fun i H' _ h => h.1.seq hS) ?_ ?_
  · rintro i x H' hx ⟨s1, h1⟩
    have hi : i < (hl hs).length := (List.getElem?_eq_some_iff.mp hx).1
    obtain ⟨z, rfl, hz2⟩ : ∃ z : Nat, x = .int (z : Int) ∧ z < 2 := by
      unfold hl at hx
      rw [List.getElem?_map] at hx
      obtain ⟨z, e1, e2⟩ := Option.map_eq_some_iff.mp hx
      exact ⟨z, e2.symm, hh z (List.mem_of_getElem? e1)⟩
    have e1 : decide ((0 : Int) ≤ (z : Int) ∧ (z : Int) ≤ 1) = true := decide_eq_true (by omega)
    refine ⟨rfl, _, rfl, (z : Int), rfl, _, h1, (by rw [List.length_map, List.length_replicate]; exact Nat.lt_of_lt_of_le hi (by rw [lenH]; exact Nat.le_trans hz (by decide))), fun b' o e => ?_, ?_⟩
    · rw [upd_ne (ne_of_none e hD)]
      exact s1 _ _ e
    · rw [upd_same, e1, rep_snoc]
  · rintro H1 ⟨s1, h1⟩
    refine ⟨D, _, rfl, SqL.of h1, ?_⟩
    rw [all_rep]
    refine ⟨true, rfl, iteT ?_⟩
    refine ⟨hA, rfl, ⟨_, hH _⟩, fun D2 hD2 => ?_⟩
    refine tup_turns (xs := [V.int 0, V.int 1]) (fun i H' => Same H1 H' ∧ H' D2 = some (.lst ((List.replicate i true).map V.bl))) ⟨same_new hD2 _, upd_same⟩ (fun i H' _ h => hH _) ?_ ?_
    · rintro i x H' hx ⟨s2, h2⟩
      have hi : i < 2 := (List.getElem?_eq_some_iff.mp hx).1
      obtain ⟨z, rfl, hz2⟩ : ∃ z : Nat, x = .int (z : Int) ∧ z < 2 := by
        rcases i with _ | _ | i
        · exact ⟨0, by simpa using hx.symm, by decide⟩
        · exact ⟨1, by simpa using hx.symm, by decide⟩
        · simp at hx
      have hS2 := s2.seq (s1.seq hS)
      have cz := hc z hz2
      rw [← hl_count, ] at cz
      refine ⟨rfl, _, rfl, ?_, _, rfl, p, hs.map fun h : Nat => (h : Int), (z : Int), rfl, rfl, by rw [← hl_ints]; exact hS2, _, rfl, _, _, rfl, rfl, .inl ⟨by decide, by decide⟩, _, _, rfl, rfl, _, h2, (by rw [List.length_map, List.length_replicate]; exact Nat.lt_of_lt_of_le hi (by decide)), fun b' o e => ?_, ?_⟩
      · exact .inl ⟨rfl, _, hS2⟩
      · rw [upd_ne (ne_of_none e hD2)]
        exact s2 _ _ e
      · rw [upd_same]
        show some (HO.lst (_ ++ [V.bl (decide ((((hs.map fun h : Nat => (h : Int)).count (z : Int) : Nat) : Int) ≤ 2 * (d : Int)))])) = _
        rw [decide_eq_true (by omega), rep_snoc]
    · rintro H2 ⟨s2, h2⟩
      refine ⟨D2, _, rfl, SqL.of h2, ?_⟩
      rw [all_rep]
      exact q _ (s1.trans s2)
end
end TA

set_option Elab.async false
set_option maxRecDepth 100000
set_option maxHeartbeats 4000000
namespace TA
open PySem L2 PyProof.Rows
set_option linter.unusedVariables false
theorem ixN_two {h : Nat} (hh : h < 2) : ixN 2 (h : Int) = some h := by
  rcases h with _ | _ | h
  · rfl
  · rfl
  · omega
theorem at_two {α : Type} (f : Nat → α) {h : Nat} (hh : h < 2) : atI [f 0, f 1] (h : Int) = some (f h) := atI_nat (two_get f hh)
theorem same_upd {H0 H : Hp} {p : Addr} {o : HO} (s : Same H0 H) (f : H0 p = none) : Same H0 (upd H p o) := fun b u e => by
  rw [upd_ne (ne_of_none e f)]
  exact s _ _ e
structure KS (H0 H : Hp) (kn ce lo : Addr) (cs : Nat → Addr) (m : M) : Prop where
  same : Same H0 H
  f1 : H0 kn = none
  f2 : H0 ce = none
  f3 : H0 lo = none
  f4 : ∀ h < 2, H0 (cs h) = none
  n1 : kn ≠ ce
  n2 : kn ≠ lo
  n3 : ∀ h < 2, kn ≠ cs h
  n4 : ce ≠ lo
  n5 : ∀ h < 2, ce ≠ cs h
  n6 : ∀ h < 2, lo ≠ cs h
  n7 : cs 0 ≠ cs 1
  hk : ∃ v : Nat → V, H kn = some (.lst [v 0, v 1]) ∧ ∀ h < 2, Kn H (v h) (m.k h)
  he : H ce = some (.lst [.ref (cs 0), .ref (cs 1)])
  ho : H lo = some (.lst [.int (m.l 0 : Nat), .int (m.l 1 : Nat)])
  hc : ∀ h < 2, ∃ ws, H (cs h) = some (.lst ws) ∧ KnAll H ws (m.c h)
theorem cs_ne {cs : Nat → Addr} (n : cs 0 ≠ cs 1) {i h : Nat} (hi : i < 2) (hh : h < 2) (e : i ≠ h) : cs i ≠ cs h := by
  rcases i with _ | _ | i
  · rcases h with _ | _ | h
    · exact absurd rfl e
    · exact n
    · omega
  · rcases h with _ | _ | h
    · exact n.symm
    · exact absurd rfl e
    · omega
  · omega
theorem KS.put {H0 H : Hp} {kn ce lo : Addr} {cs : Nat → Addr} {m : M} (S : KS H0 H kn ce lo cs m) {h : Nat} (hh : h < 2) (c : ¬ m.l h < (m.c h).length) {ws : List V} {v : V} (hw : H (cs h) = some (.lst ws)) (ha : KnAll H ws (m.c h)) (hv : Kn H v (m.k h)) :
    KS H0 (upd H (cs h) (.lst (ws ++ [v]))) kn ce lo cs (m.step h) := by
  have es : m.step h = { k := m.k, c := upf m.c h (m.c h ++ [m.k h]), l := m.l } := by unfold M.step; rw [if_neg c]
  rw [es]
  have tu : Tups H (upd H (cs h) (.lst (ws ++ [v]))) := Tups.updL hw
  obtain ⟨vs, hk, hkn⟩ := S.hk
  refine { S with same := same_upd S.same (S.f4 h hh), hk := ⟨vs, ?_, fun i hi => (hkn i hi).mono tu⟩, he := ?_, ho := ?_, hc := fun i hi => ?_ }
  · rw [upd_ne (S.n3 h hh)]; exact hk
  · rw [upd_ne (S.n5 h hh)]; exact S.he
  · rw [upd_ne (S.n6 h hh)]; exact S.ho
  · by_cases e : i = h
    · subst e
      refine ⟨_, upd_same, ?_⟩
      show KnAll _ _ (upf m.c i (m.c i ++ [m.k i]) i)
      rw [upf_same]
      exact (ha.mono tu).snoc (hv.mono tu)
    · obtain ⟨ws2, h1, h2⟩ := S.hc i hi
      refine ⟨ws2, by rw [upd_ne (cs_ne S.n7 hi hh e)]; exact h1, ?_⟩
      show KnAll _ _ (upf m.c h (m.c h ++ [m.k h]) i)
      rw [upf_ne e]
      exact h2.mono tu
theorem KS.look {H0 H : Hp} {kn ce lo : Addr} {cs : Nat → Addr} {m : M} (S : KS H0 H kn ce lo cs m) {h : Nat} (hh : h < 2) (c : m.l h < (m.c h).length) {v : Nat → V} {w : V} {q : Addr} (hk : H kn = some (.lst [v 0, v 1])) (hkn : ∀ h < 2, Kn H (v h) (m.k h)) (hw : Kn H w ((m.c (1 - h)).getD (m.l h) .none)) (hq : H q = none) :
    KS H0 (upd (upd (upd H q (.tup [v h, w])) kn (.lst [upf v h (.ref q) 0, upf v h (.ref q) 1])) lo (.lst [.int (upf m.l h (m.l h + 1) 0 : Nat), .int (upf m.l h (m.l h + 1) 1 : Nat)])) kn ce lo cs (m.step h) := by
  have es : m.step h = { k := upf m.k h (.tuple [m.k h, (m.c (1 - h)).getD (m.l h) .none]), c := m.c, l := upf m.l h (m.l h + 1) } := by unfold M.step; rw [if_pos c]
  rw [es]
  have qk : kn ≠ q := ne_of_none hk hq
  have qe : ce ≠ q := ne_of_none S.he hq
  have ql : lo ≠ q := ne_of_none S.ho hq
  have t1 : Tups H (upd H q (.tup [v h, w])) := Tups.same (same_new hq _)
  have t2 : Tups H (upd (upd H q (.tup [v h, w])) kn (.lst [upf v h (.ref q) 0, upf v h (.ref q) 1])) := t1.trans (Tups.updL (by rw [upd_ne qk]; exact hk))
  have t3 : Tups H (upd (upd (upd H q (.tup [v h, w])) kn (.lst [upf v h (.ref q) 0, upf v h (.ref q) 1])) lo (.lst [.int (upf m.l h (m.l h + 1) 0 : Nat), .int (upf m.l h (m.l h + 1) 1 : Nat)])) := t2.trans (Tups.updL (by rw [upd_ne S.n2.symm, upd_ne ql]; exact S.ho))
  have hq3 : (upd (upd (upd H q (.tup [v h, w])) kn (.lst [upf v h (.ref q) 0, upf v h (.ref q) 1])) lo (.lst [.int (upf m.l h (m.l h + 1) 0 : Nat), .int (upf m.l h (m.l h + 1) 1 : Nat)])) q = some (.tup [v h, w]) := by
    rw [upd_ne ql.symm, upd_ne qk.symm, upd_same]
  refine { S with same := same_upd (same_upd (S.same.trans (same_new hq _)) S.f1) S.f3, hk := ⟨upf v h (.ref q), ?_, fun i hi => ?_⟩, he := ?_, ho := upd_same, hc := fun i hi => ?_ }
  · rw [upd_ne S.n2, upd_same]
  · show Kn _ (upf v h (.ref q) i) (upf m.k h (.tuple [m.k h, (m.c (1 - h)).getD (m.l h) .none]) i)
    by_cases e : i = h
    · subst e
      rw [upf_same, upf_same]
      exact .tup hq3 ((hkn i hi).mono t3) (hw.mono t3)
    · rw [upf_ne e, upf_ne e]
      exact (hkn i hi).mono t3
  · rw [upd_ne S.n4, upd_ne S.n1.symm, upd_ne qe]; exact S.he
  · obtain ⟨ws2, h1, h2⟩ := S.hc i hi
    exact ⟨ws2, by rw [upd_ne (S.n6 i hi).symm, upd_ne (S.n3 i hi).symm, upd_ne (ne_of_none h1 hq)]; exact h1, h2.mono t3⟩
/-- the answer of known (and of _law_behind) -/
def spTold (vs0 : List V → Hp → Addr → List Nat → Nat → Int → Int → Prop) : Sp := fun vs H Q _ => ∃ (p : Addr) (hs : List Nat) (d : Nat) (a b : Int), vs0 vs H p hs d a b ∧ (∀ h ∈ hs, h < 2) ∧ (∀ h < 2, hs.count h ≤ 2 * d) ∧ hs.length ≤ 40 ∧ d ≤ 5 ∧ 0 ≤ a ∧ 0 ≤ b ∧
  ∀ (o : Addr) (v : Nat → V) (H' : Hp), Same H H' → H o = none → H' o = some (.lst [v 0, v 1]) → (∀ h < 2, Kn H' (v h) (((M0 a b).run hs).res d h)) → Q (.ref o) H'
def spKnown (K : PySem.W.Frag) : Sp := spTold fun vs H p hs d a b => ∃ t, vs = [.ref t, .ref p, .int (d : Int)] ∧ H t = some (.tup [.int a, .int b]) ∧ SqL K H p (hl hs)
theorem nat_two {x : V} {i : Nat} (hx : ([V.int 0, V.int 1] : List V)[i]? = some x) : x = .int ((i : Nat) : Int) ∧ i < 2 := by
  rcases i with _ | _ | i
  · exact ⟨by simpa using hx.symm, by decide⟩
  · exact ⟨by simpa using hx.symm, by decide⟩
  · simp at hx
theorem hl_at {hs : List Nat} {i : Nat} {x : V} (hx : (hl hs)[i]? = some x) : ∃ z : Nat, x = .int (z : Int) ∧ hs[i]? = some z := by
  unfold hl at hx
  rw [List.getElem?_map] at hx
  obtain ⟨z, e1, e2⟩ := Option.map_eq_some_iff.mp hx
  exact ⟨z, e2.symm, e1⟩
end TA

set_option Elab.async false
set_option maxRecDepth 100000
set_option maxHeartbeats 4000000
namespace TA
open PySem L2 PyProof.Rows
set_option linter.unusedVariables false
/-! things of any kind, by their data -/
inductive Kd (K : PySem.W.Frag) (H : Hp) : V → PyData → Prop
  | dp {v d} : Dp K H v d → Kd K H v d
  | dic {a : Addr} : H a = some (.dK []) → Kd K H (.ref a) (.dict [])
def tyN : PyData → String
  | .none => "NoneType"
  | .bool _ => "bool"
  | .int _ => "int"
  | .str _ => "str"
  | .list _ => "list"
  | .tuple _ => "tuple"
  | .dict _ => "dict"
theorem sqT_ty {K : PySem.W.Frag} {H : Hp} {a : Addr} {xs : List V} (h : SqT K H a xs) : TyX K H (.ref a) (.type "tuple") := by
  rcases h with h | ⟨o, its, n, h1, h2, _⟩
  · rcases h with h | ⟨o, h⟩
    · exact .base (.tup h)
    · exact .fTuple h
  · exact .kTuple h1 h2
theorem sqL_ty {K : PySem.W.Frag} {H : Hp} {a : Addr} {xs : List V} (h : SqL K H a xs) : TyX K H (.ref a) (.type "list") := by
  rcases h with h | ⟨o, its, n, h1, h2, _⟩
  · rcases h with h | ⟨o, h⟩
    · exact .base (.lst h)
    · exact .base (.frz h)
  · exact .kList h1 h2
theorem Kd.ty {K : PySem.W.Frag} {H : Hp} {v : V} {d : PyData} (h : Kd K H v d) : TyX K H v (.type (tyN d)) := by
  cases h with
  | dp h =>
    cases h with
    | non => exact .base .non
    | bl b => exact .base (.bl b)
    | int i => exact .base (.int i)
    | str x => exact .base (.str x)
    | lst h _ => exact sqL_ty h
    | tup h _ => exact sqT_ty h
  | dic h => exact .base (.dK h)
def isWholeD : PyData → Bool
  | .int _ => true
  | _ => false
def within : PyData → Int → Int → Bool
  | .int n, lo, hi => decide (lo ≤ n ∧ n ≤ hi)
  | _, _, _ => false
def spWholeG (K : PySem.W.Frag) : Sp := fun vs H Q _ => ∃ (v : V) (d : PyData), vs = [v] ∧ Kd K H v d ∧ Q (.bl (isWholeD d)) H
def spWithinG (K : PySem.W.Frag) : Sp := fun vs H Q _ => ∃ (v : V) (d : PyData) (lo hi : Int), vs = [v, .int lo, .int hi] ∧ Kd K H v d ∧ Q (.bl (within d lo hi)) H
def spHandG (K : PySem.W.Frag) : Sp := fun vs H Q _ => ∃ (v : V) (d : PyData), vs = [v] ∧ Kd K H v d ∧ Q (.bl (within d 0 1)) H
theorem kit_int (d : PyData) {K : PySem.W.Frag} : ∃ b1 b2, PySem.W.kitOne K (.type (tyN d)) (.type "int") = some b1 ∧ PySem.W.kitOne K (.type (tyN d)) (.type "bool") = some b2 ∧ isWholeD d = (b1 && !b2) := by
  cases d with
  | none => exact ⟨false, false, kit_ty (a := "NoneType") (b := "int") (by decide +kernel), kit_ty (a := "NoneType") (b := "bool") (by decide +kernel), rfl⟩
  | bool b => exact ⟨true, true, kit_ty (a := "bool") (b := "int") (by decide +kernel), kit_ty (a := "bool") (b := "bool") (by decide +kernel), rfl⟩
  | int i => exact ⟨true, false, kit_ty (a := "int") (b := "int") (by decide +kernel), kit_ty (a := "int") (b := "bool") (by decide +kernel), rfl⟩
  | str s => exact ⟨false, false, kit_ty (a := "str") (b := "int") (by decide +kernel), kit_ty (a := "str") (b := "bool") (by decide +kernel), rfl⟩
  | list l => exact ⟨false, false, kit_ty (a := "list") (b := "int") (by decide +kernel), kit_ty (a := "list") (b := "bool") (by decide +kernel), rfl⟩
  | tuple l => exact ⟨false, false, kit_ty (a := "tuple") (b := "int") (by decide +kernel), kit_ty (a := "tuple") (b := "bool") (by decide +kernel), rfl⟩
  | dict l => exact ⟨false, false, kit_ty (a := "dict") (b := "int") (by decide +kernel), kit_ty (a := "dict") (b := "bool") (by decide +kernel), rfl⟩
section
variable {P : Program} {w : World} {K : PySem.W.Frag} {mg : Str → Option Value} {base : Heap}
theorem ok_wholeG {f : Addr} {fd : FuncData} (F : Fun K "is_whole" "is_whole" sWhole f fd) (T : Txt K mg) : FnOk P w K mg base CX0 1 f fd ["thing"] (spWholeG K) := by
  refine F.ok scWhole (fun vs H Q E h => ?_) (fun cdv A outer s H vs Q E hr h => ?_)
  · obtain ⟨v, d, rfl, _⟩ := h
    rfl
  obtain ⟨v, d, rfl, hk, q⟩ := h
  refine ⟨_, pss_one (ps_ret (pe_and (pe_callB call_isi (by rfl) T.isi boot_isinstance (pa_cons (pv 0) (pa_cons (pe_bltn (v := .ty "int") (by rfl) T.int boot_int rfl) pa_nil)))
    (pe_one (pe_not (pe_callB call_isi (by rfl) T.isi boot_isinstance (pa_cons (pv 0) (pa_cons (pe_bltn (v := .ty "bool") (by rfl) T.bool boot_bool rfl) pa_nil))))))), ?_⟩
  obtain ⟨b1, b2, e1, e2, e3⟩ := kit_int d (K := K)
  rw [e3] at q
  refine ⟨_, rfl, v, V.ty "int", _, _, b1, rfl, .ty "int", hk.ty, e1, b1, rfl, ?_⟩
  cases b1 with
  | false => exact iteF q
  | true => exact iteT ⟨_, rfl, v, V.ty "bool", _, _, b2, rfl, .ty "bool", hk.ty, e2, b2, rfl, q⟩
theorem ok_withinG {f g : Addr} {fd gd : FuncData} (F : Fun K "is_whole_within" "is_whole_within" sWithin f fd) (W : Def P w K mg base "is_whole" ["thing"] 1 (spWholeG K) g gd) : FnOk P w K mg base CX0 2 f fd ["thing", "least", "most"] (spWithinG K) := by
  refine F.ok scWithin (fun vs H Q E h => ?_) (fun cdv A outer s H vs Q E hr h => ?_)
  · obtain ⟨v, d, lo, hi, rfl, _⟩ := h
    rfl
  obtain ⟨v, d, lo, hi, rfl, hk, q⟩ := h
  refine ⟨_, pss_one (ps_ret (pe_and (pe_call W.G hr rfl W.m W.k W.b .nil pass0 (pa_cons (pv 0) pa_nil)) (pe_one (pe_chain op_le op_le (pv 1) (pv 0) (pv 2))))), ?_⟩
  refine ⟨_, rfl, v, d, rfl, hk, isWholeD d, rfl, ?_⟩
  by_cases hw : ∃ n, d = .int n
  · obtain ⟨n, rfl⟩ := hw
    have ev : v = .int n := by
      cases hk with
      | dp h => cases h; rfl
    subst ev
    refine iteT ⟨_, rfl, _, rfl, _, _, rfl, rfl, _, rfl, ?_⟩
    by_cases h1 : lo ≤ n
    · rw [decide_eq_true h1]
      refine iteT ⟨_, rfl, _, _, rfl, rfl, ?_⟩
      have e : within (.int n) lo hi = decide (n ≤ hi) := by unfold within; simp [h1]
      rw [e] at q
      exact q
    · rw [decide_eq_false h1]
      refine iteF ?_
      have e : within (.int n) lo hi = false := by unfold within; simp [h1]
      rw [e] at q
      exact q
  · have e1 : isWholeD d = false := by
      cases d with
      | int n => exact absurd ⟨n, rfl⟩ hw
      | _ => rfl
    have e2 : within d lo hi = false := by
      cases d with
      | int n => exact absurd ⟨n, rfl⟩ hw
      | _ => rfl
    rw [e1]
    rw [e2] at q
    exact iteF q
theorem ok_handG {f g : Addr} {fd gd : FuncData} (F : Fun K "is_hand" "is_hand" sHand f fd) (W : Def P w K mg base "is_whole_within" ["thing", "least", "most"] 2 (spWithinG K) g gd) : FnOk P w K mg base CX0 3 f fd ["thing"] (spHandG K) := by
  refine F.ok scHand (fun vs H Q E h => ?_) (fun cdv A outer s H vs Q E hr h => ?_)
  · obtain ⟨v, d, rfl, _⟩ := h
    rfl
  obtain ⟨v, d, rfl, hk, q⟩ := h
  refine ⟨_, pss_one (ps_ret (pe_call W.G hr rfl W.m W.k W.b .nil pass0 (pa_cons (pv 0) (pa_cons pe_int (pa_cons pe_int pa_nil))))), ?_⟩
  exact ⟨_, rfl, v, d, 0, 1, rfl, hk, q⟩
end
end TA

set_option Elab.async false
set_option maxRecDepth 100000
set_option maxHeartbeats 4000000
namespace TA
open PySem L2 PyProof.Rows
set_option linter.unusedVariables false
theorem rd_mono {H H' : Hp} (s : Same H H') {a : Addr} {o : HO} (h : Rd H a o) : Rd H' a o := by
  rcases h with h | ⟨ob, h⟩
  · exact .inl (s _ _ h)
  · exact .inr ⟨ob, s _ _ h⟩
theorem seqT_mono {K : PySem.W.Frag} {H H' : Hp} (s : Same H H') {a : Addr} {xs : List V} (h : SqT K H a xs) : SqT K H' a xs := by
  rcases h with h | h
  · exact .inl (rd_mono s h)
  · exact .inr h
mutual
theorem dp_mono {K : PySem.W.Frag} {H H' : Hp} (s : Same H H') : ∀ (d : PyData) (v : V), Dp K H v d → Dp K H' v d
  | .none, _, h => by cases h; exact .non
  | .bool b, _, h => by cases h; exact .bl b
  | .int i, _, h => by cases h; exact .int i
  | .str x, _, h => by cases h; exact .str x
  | .list ds, _, h => by
    cases h with
    | lst a b => exact .lst (s.seq a) (dpAll_mono s ds _ b)
  | .tuple ds, _, h => by
    cases h with
    | tup a b => exact .tup (seqT_mono s a) (dpAll_mono s ds _ b)
  | .dict _, _, h => by cases h
theorem dpAll_mono {K : PySem.W.Frag} {H H' : Hp} (s : Same H H') : ∀ (ds : List PyData) (vs : List V), DpAll K H vs ds → DpAll K H' vs ds
  | [], _, h => by cases h; exact .nil
  | d :: ds, _, h => by
    cases h with
    | cons a b => exact .cons (dp_mono s d _ a) (dpAll_mono s ds _ b)
end
theorem kd_mono {K : PySem.W.Frag} {H H' : Hp} (s : Same H H') {v : V} {d : PyData} (h : Kd K H v d) : Kd K H' v d := by
  cases h with
  | dp h => exact .dp (dp_mono s _ _ h)
  | dic h => exact .dic (s _ _ h)
theorem dpAll_get {K : PySem.W.Frag} {H : Hp} : ∀ {vs : List V} {ds : List PyData} {i : Nat} {x : V}, DpAll K H vs ds → vs[i]? = some x → ∃ d, ds[i]? = some d ∧ Dp K H x d
  | _, _, _, _, .nil, e => by simp at e
  | _, _, 0, _, .cons a b, e => ⟨_, rfl, by simp at e; rw [← e]; exact a⟩
  | _, _, i + 1, x, .cons a b, e => by
    obtain ⟨d, h1, h2⟩ := dpAll_get (i := i) (x := x) b (by simpa using e)
    exact ⟨d, by simpa using h1, h2⟩
theorem dpAll_len {K : PySem.W.Frag} {H : Hp} : ∀ {vs : List V} {ds : List PyData}, DpAll K H vs ds → vs.length = ds.length
  | _, _, .nil => rfl
  | _, _, .cons _ b => congrArg (· + 1) (dpAll_len b)
def IOk (d : PyData) : Prop := ∃ a b : Int, d = .tuple [.int a, .int b] ∧ 0 ≤ a ∧ 0 ≤ b
def hlD (hs : List Nat) : PyData := .list (hs.map fun h : Nat => PyData.int (h : Int))
def WOk (deep : Nat) (d : PyData) : Prop := ∃ hs : List Nat, d = hlD hs ∧ (∀ h ∈ hs, h < 2) ∧ ∀ h < 2, hs.count h ≤ 2 * deep
def elemOk : PyData → Bool
  | .int n => decide (0 ≤ n)
  | _ => false
theorem two_ok {ds : List PyData} : (decide (ds.length = 2) && (ds.map elemOk).all id) = true ↔ IOk (.tuple ds) := by
  constructor
  · intro h
    obtain ⟨h1, h2⟩ := Bool.and_eq_true_iff.mp h
    have h1 := of_decide_eq_true h1
    obtain ⟨x, y, rfl⟩ : ∃ x y, ds = [x, y] := by
      match ds, h1 with
      | [x, y], _ => exact ⟨x, y, rfl⟩
    have e : elemOk x = true ∧ elemOk y = true := by simpa using h2
    obtain ⟨ex, ey⟩ := e
    cases x with
    | int a =>
      cases y with
      | int b => exact ⟨a, b, rfl, of_decide_eq_true ex, of_decide_eq_true ey⟩
      | _ => exact Bool.noConfusion (show false = true from ey)
    | _ => exact Bool.noConfusion (show false = true from ex)
  · rintro ⟨a, b, e, ha, hb⟩
    injection e with e
    subst e
    simp [elemOk, ha, hb]
theorem hands_ok {ds : List PyData} (h : (ds.map fun d => within d 0 1).all id = true) : ∃ hs : List Nat, ds = hs.map (fun h : Nat => PyData.int (h : Int)) ∧ ∀ h ∈ hs, h < 2 := by
  induction ds with
  | nil => exact ⟨[], rfl, fun h m => by cases m⟩
  | cons d r ih =>
    rw [List.map_cons, List.all_cons] at h
    obtain ⟨h1, h2⟩ := Bool.and_eq_true_iff.mp h
    obtain ⟨hs, rfl, hh⟩ := ih h2
    cases d with
    | int n =>
      have := of_decide_eq_true (show decide ((0 : Int) ≤ n ∧ n ≤ 1) = true from h1)
      refine ⟨n.toNat :: hs, ?_, fun h m => ?_⟩
      · rw [List.map_cons, show ((n.toNat : Nat) : Int) = n by omega]
      · rcases List.mem_cons.mp m with e | e
        · rw [e]; omega
        · exact hh h e
    | _ => exact Bool.noConfusion (show false = true from h1)
theorem take_bl (bs : List Bool) {i : Nat} {b : Bool} (h : bs[i]? = some b) : (bs.take i).map V.bl ++ [V.bl b] = (bs.take (i + 1)).map V.bl := by
  rw [List.take_add_one, h, List.map_append]
  rfl
def spInputsG (K : PySem.W.Frag) : Sp := fun vs H Q _ => ∃ (v : V) (d : PyData), vs = [v] ∧ Kd K H v d ∧ (∀ ds, d = .tuple ds → ds.length ≤ 1000) ∧ ∀ (b : Bool) (H' : Hp), Same H H' → (b = true ↔ IOk d) → Q (.bl b) H'
def spWeavingG (K : PySem.W.Frag) : Sp := fun vs H Q _ => ∃ (v : V) (d : PyData) (deep : Nat), vs = [v, .int (deep : Int)] ∧ Kd K H v d ∧ (∀ ds, d = .list ds → ds.length ≤ 1000) ∧ ∀ (b : Bool) (H' : Hp), Same H H' → (b = true ↔ WOk deep d) → Q (.bl b) H'
section
variable {P : Program} {w : World} {K : PySem.W.Frag} {mg : Str → Option Value} {base : Heap}
theorem ok_inputsG {f g : Addr} {fd gd : FuncData} (F : Fun K "is_inputs" "is_inputs" sInputs f fd) (T : Txt K mg) (W : Def P w K mg base "is_whole" ["thing"] 1 (spWholeG K) g gd) : FnOk P w K mg base CX0 2 f fd ["thing"] (spInputsG K) := by
  refine F.ok scInputs (fun vs H Q E h => ?_) (fun cdv A outer s H vs Q E hr h => ?_)
  · obtain ⟨v, d, rfl, _⟩ := h
    rfl
  obtain ⟨v, d, rfl, hk, hz, q⟩ := h
  have nd := scInputs.nd
  refine ⟨_, pss_one (ps_ret (pe_and (pe_callB call_isi (by rfl) T.isi boot_isinstance (pa_cons (pv 0) (pa_cons (pe_bltn (v := .ty "tuple") (by rfl) T.tuple boot_tuple rfl) pa_nil)))
    (pe_and (pe_cmpR op_eq (pe_callB call_len_seq (by rfl) T.len PySem.boot_len (pa_cons (pv 0) pa_nil)) pe_int (nomark _))
    (pe_one (pe_callB (cr_all rfl) (by rfl) T.all (by decide +kernel) (pa_cons
      (pe_lc (own := [("a", 1)]) (g := gName 1) (tt := tYes) (te := tAndV (tCall (spWholeG K) [] E0 (tCons (tVar 1) tNil)) (tOp (rI0 fun i j => .bl (decide (i ≥ j))) (tVar 1) (tC (.int 0)))) rfl nd (pi_tup (pv 0)) (blkOk_by (N := ["thing", "a"]) (sc := defScope sInputs) (by decide +kernel)) (fun _ _ _ _ _ => pg_name (i := 1) nd rfl (Or.inl rfl)) (fun _ _ _ _ _ => pts_nil)
        (fun _ _ _ _ _ => (by refine pe_and ?_ (pe_one ?_); (exact pe_call W.G hr rfl W.m W.k W.b .nil pass0 (pa_cons (pv 1) pa_nil)); (exact pe_cmpR op_ge (pv 1) pe_int (nomark _))))) pa_nil)))))), ?_⟩
  by_cases ht : ∃ ds, d = .tuple ds
  · obtain ⟨ds, rfl⟩ := ht
    obtain ⟨t, vs, rfl, hS, hD⟩ : ∃ t vs, v = .ref t ∧ SqT K H t vs ∧ DpAll K H vs ds := by
      cases hk with
      | dp h =>
        cases h with
        | tup a b => exact ⟨_, _, rfl, a, b⟩
    have hl := dpAll_len hD
    have hds := hz ds rfl
    refine ⟨_, rfl, .ref t, .ty "tuple", _, _, true, rfl, .ty "tuple", sqT_ty hS, kit_ty (by decide +kernel), true, rfl, iteT ?_⟩
    refine ⟨_, rfl, t, _, rfl, .inr hS, rfl, _, rfl, ?_⟩
    have e2 : decide (V.int ((vs.length : Nat) : Int) = V.int 2) = decide (ds.length = 2) := by
      rw [hl]
      by_cases c : ds.length = 2
      · rw [decide_eq_true c, c]; rfl
      · rw [decide_eq_false c]
        exact decide_eq_false (fun e => by injection e with e; omega)
    show if decide (V.int ((vs.length : Nat) : Int) = V.int 2) = true then _ else _
    rw [e2]
    by_cases c : ds.length = 2
    · rw [decide_eq_true c]
      refine iteT ⟨_, rfl, t, rfl, ⟨_, hS⟩, fun D hD' => ?_⟩
      refine tup_turns (xs := vs) (fun i H' => Same H H' ∧ H' D = some (.lst (((ds.map elemOk).take i).map V.bl))) ⟨same_new hD' _, upd_same⟩ (fun i H' _ h => seqT_mono h.1 hS) ?_ ?_
      · rintro i x H' hx ⟨s1, h1⟩
        obtain ⟨di, hdi, hxi⟩ := dpAll_get hD hx
        have hi : i < ds.length := (List.getElem?_eq_some_iff.mp hdi).1
        have hb : (ds.map elemOk)[i]? = some (elemOk di) := by rw [List.getElem?_map, hdi]; rfl
        have fin : ∀ b, b = elemOk di → ∃ acc, H' D = some (.lst acc) ∧ acc.length < sizeLine ∧ Same H (upd H' D (.lst (acc ++ [V.bl b]))) ∧ (upd H' D (.lst (acc ++ [V.bl b]))) D = some (.lst (((ds.map elemOk).take (i + 1)).map V.bl)) := fun b e => by
          subst e
          refine ⟨_, h1, ?_, same_upd s1 hD', by rw [upd_same, take_bl _ hb]⟩
          rw [List.length_map]
          exact Nat.lt_of_le_of_lt (List.length_take_le _ _) (Nat.lt_of_lt_of_le hi (Nat.le_trans hds (by decide)))
        refine ⟨rfl, _, rfl, x, di, rfl, .dp (dp_mono s1 _ _ hxi), isWholeD di, rfl, ?_⟩
        cases di with
        | int n =>
          cases hxi
          exact iteT ⟨_, rfl, _, _, rfl, rfl, fin _ rfl⟩
        | none => exact iteF (fin _ rfl)
        | bool b => exact iteF (fin _ rfl)
        | str b => exact iteF (fin _ rfl)
        | list b => exact iteF (fin _ rfl)
        | tuple b => exact iteF (fin _ rfl)
        | dict b => exact iteF (fin _ rfl)
      · rintro H' ⟨s1, h1⟩
        rw [hl, ← List.length_map (f := elemOk), List.take_length] at h1
        refine ⟨D, _, rfl, SqL.of h1, q _ _ s1 ?_⟩
        rw [← two_ok, decide_eq_true c, Bool.true_and]
    · rw [decide_eq_false c]
      refine iteF (q _ _ (Same.refl H) ⟨fun e => (by cases e), fun h => ?_⟩)
      have := two_ok.mpr h
      rw [decide_eq_false c] at this
      cases this
  · have hq : ∀ {b : Bool}, b = false → (b = true ↔ IOk d) := fun e => ⟨fun e2 => (by rw [e] at e2; cases e2), fun ⟨a, b, e2, _⟩ => absurd ⟨_, e2⟩ ht⟩
    have kit : PySem.W.kitOne K (.type (tyN d)) (.type "tuple") = some false := by
      cases d with
      | none => exact kit_ty (a := "NoneType") (b := "tuple") (by decide +kernel)
      | bool b => exact kit_ty (a := "bool") (b := "tuple") (by decide +kernel)
      | int b => exact kit_ty (a := "int") (b := "tuple") (by decide +kernel)
      | str b => exact kit_ty (a := "str") (b := "tuple") (by decide +kernel)
      | list b => exact kit_ty (a := "list") (b := "tuple") (by decide +kernel)
      | tuple b => exact absurd ⟨b, rfl⟩ ht
      | dict b => exact kit_ty (a := "dict") (b := "tuple") (by decide +kernel)
    exact ⟨_, rfl, v, .ty "tuple", _, _, false, rfl, .ty "tuple", hk.ty, kit, false, rfl, iteF (q _ _ (Same.refl H) (hq rfl))⟩
theorem ok_weavingG {f g : Addr} {fd gd : FuncData} (F : Fun K "is_weaving" "is_weaving" sWeaving f fd) (T : Txt K mg) (U : Txt2 K mg) (W : Def P w K mg base "is_hand" ["thing"] 3 (spHandG K) g gd) : FnOk P w K mg base CX0 4 f fd ["thing", "rounds"] (spWeavingG K) := by
  refine F.ok scWeaving (fun vs H Q E h => ?_) (fun cdv A outer s H vs Q E hr h => ?_)
  · obtain ⟨v, d, deep, rfl, _⟩ := h
    rfl
  obtain ⟨v, d, deep, rfl, hk, hz, q⟩ := h
  obtain ⟨t2, m2⟩ := U.two
  obtain ⟨hA, mH, hH⟩ := U.hands
  have nd := scWeaving.nd
  refine ⟨_, pss_one (ps_ret (pe_and (pe_callB call_isi (by rfl) T.isi boot_isinstance (pa_cons (pv 0) (pa_cons (pe_bltn (v := .ty "list") (by rfl) T.list boot_list rfl) pa_nil)))
    (pe_and (pe_callB (cr_all rfl) (by rfl) T.all (by decide +kernel) (pa_cons
      (pe_lc (own := [("hand", 2)]) (g := gName 2) (tt := tYes) (te := tCall (spHandG K) [] E0 (tCons (tVar 2) tNil)) rfl nd (pi_list (pv 0)) (blkOk_by (N := ["thing", "rounds", "hand"]) (sc := defScope sWeaving) (by decide +kernel)) (fun _ _ _ _ _ => pg_name (i := 2) nd rfl (Or.inl rfl)) (fun _ _ _ _ _ => pts_nil)
        (fun _ _ _ _ _ => (by exact pe_call W.G hr rfl W.m W.k W.b .nil pass0 (pa_cons (pv 2) pa_nil)))) pa_nil))
    (pe_one (pe_callB (cr_all rfl) (by rfl) T.all (by decide +kernel) (pa_cons
      (pe_lc (own := [("hand", 2)]) (g := gName 2) (tt := tYes) (te := tOp (rI0 fun i j => .bl (decide (i ≤ j))) (tBM K "list" (rCntI K) (tVar 0) (tCons (tVar 2) tNil)) (tOp (rI CMul fun i j => .int (i * j)) (tC (.int 2)) (tVar 1))) rfl nd (pi_tup (pe_glob (v := .ref hA) rfl mH rfl)) (blkOk_by (N := ["thing", "rounds", "hand"]) (sc := defScope sWeaving) (by decide +kernel)) (fun _ _ _ _ _ => pg_name (i := 2) nd rfl (Or.inl rfl)) (fun _ _ _ _ _ => pts_nil)
        (fun _ _ _ _ _ => (by refine pe_cmpR op_le ?_ (pe_op op_mul ?_ (pv 1)) (nomark _); (exact pe_bm PySem.F.plainAttrs_list PySem.F.slot_list_count PySem.F.type_list_count mt_lcount (pv 0) (pa_cons (pv 2) pa_nil)); (exact pe_glob (v := .int 2) rfl m2 ⟨_, rfl⟩)))) pa_nil)))))), ?_⟩
  by_cases ht : ∃ ds, d = .list ds
  · obtain ⟨ds, rfl⟩ := ht
    obtain ⟨p, vs, rfl, hS, hD⟩ : ∃ t vs, v = .ref t ∧ SqL K H t vs ∧ DpAll K H vs ds := by
      cases hk with
      | dp h =>
        cases h with
        | lst a b => exact ⟨_, _, rfl, a, b⟩
    have hl := dpAll_len hD
    have hds := hz ds rfl
    refine ⟨_, rfl, .ref p, .ty "list", _, _, true, rfl, .ty "list", sqL_ty hS, kit_ty (by decide +kernel), true, rfl, iteT ?_⟩
    refine ⟨_, rfl, p, rfl, ⟨_, hS⟩, fun D hD' => ?_⟩
    refine list_turns (xs := vs) (fun i H' => Same H H' ∧ H' D = some (.lst (((ds.map fun d => within d 0 1).take i).map V.bl))) ⟨same_new hD' _, upd_same⟩ (fun i H' _ h => h.1.seq hS) ?_ ?_
    · rintro i x H' hx ⟨s1, h1⟩
      obtain ⟨di, hdi, hxi⟩ := dpAll_get hD hx
      have hi : i < ds.length := (List.getElem?_eq_some_iff.mp hdi).1
      have hb : (ds.map fun d => within d 0 1)[i]? = some (within di 0 1) := by rw [List.getElem?_map, hdi]; rfl
      refine ⟨rfl, _, rfl, x, di, rfl, .dp (dp_mono s1 _ _ hxi), _, h1, ?_, same_upd s1 hD', by rw [upd_same, take_bl _ hb]⟩
      rw [List.length_map]
      exact Nat.lt_of_le_of_lt (List.length_take_le _ _) (Nat.lt_of_lt_of_le hi (Nat.le_trans hds (by decide)))
    · rintro H1 ⟨s1, h1⟩
      rw [hl, ← List.length_map (f := fun d => within d 0 1), List.take_length] at h1
      refine ⟨D, _, rfl, SqL.of h1, _, rfl, ?_⟩
      by_cases c : (ds.map fun d => within d 0 1).all id = true
      · rw [c]
        refine iteT ?_
        obtain ⟨hs, rfl, hh⟩ := hands_ok c
        have hvs : vs = (hs.map fun h : Nat => (h : Int)).map V.int := by
          clear hS hl h1 hk q hz hds c hh
          induction hs generalizing vs with
          | nil => cases hD; rfl
          | cons h r ih =>
            cases hD with
            | cons a b =>
              cases a
              rw [ih _ b]
              rfl
        rw [hvs] at hS
        refine ⟨hA, rfl, ⟨_, hH _⟩, fun D2 hD2 => ?_⟩
        refine tup_turns (xs := [V.int 0, V.int 1]) (fun i H' => Same H1 H' ∧ H' D2 = some (.lst ((([decide (hs.count 0 ≤ 2 * deep), decide (hs.count 1 ≤ 2 * deep)]).take i).map V.bl))) ⟨same_new hD2 _, upd_same⟩ (fun i H' _ h => hH _) ?_ ?_
        · rintro i x H' hx ⟨s2, h2⟩
          obtain ⟨rfl, hi⟩ := nat_two hx
          have hS2 := s2.seq (s1.seq hS)
          have hb := two_get (fun i => decide (hs.count i ≤ 2 * deep)) hi
          refine ⟨rfl, _, rfl, .inl ⟨rfl, _, hS2⟩, _, rfl, p, hs.map fun h : Nat => (h : Int), (i : Int), rfl, rfl, hS2, _, rfl, _, _, rfl, rfl, .inl ⟨by decide, by decide⟩, _, _, rfl, rfl, _, h2, ?_, same_upd s2 hD2, ?_⟩
          · rw [List.length_map]
            exact Nat.lt_of_le_of_lt (List.length_take_le _ _) (Nat.lt_of_lt_of_le hi (by decide))
          · rw [upd_same, ← take_bl _ hb, hl_count]
            have e : decide (((hs.count i : Nat) : Int) ≤ 2 * (deep : Int)) = decide (hs.count i ≤ 2 * deep) := by
              by_cases c : hs.count i ≤ 2 * deep
              · rw [decide_eq_true c, decide_eq_true (by omega)]
              · rw [decide_eq_false c, decide_eq_false (by omega)]
            rw [← e]
        · rintro H2 ⟨s2, h2⟩
          refine ⟨D2, _, rfl, SqL.of h2, q _ _ (s1.trans s2) ?_⟩
          constructor
          · intro h
            have e : hs.count 0 ≤ 2 * deep ∧ hs.count 1 ≤ 2 * deep := by simpa using h
            refine ⟨hs, rfl, hh, fun h h2 => ?_⟩
            obtain rfl | rfl : h = 0 ∨ h = 1 := by omega
            · exact e.1
            · exact e.2
          · rintro ⟨hs2, e, _, h2⟩
            injection e with e
            have e' : hs = hs2 := by
              have := congrArg (List.map fun d => match d with | PyData.int n => n.toNat | _ => 0) e
              simpa [List.map_map, Function.comp_def] using this
            subst e'
            have a := h2 0 (by decide)
            have b := h2 1 (by decide)
            simp [a, b]
      · have c' : (ds.map fun d => within d 0 1).all id = false := Bool.eq_false_iff.mpr c
        rw [c']
        refine iteF (q _ _ s1 ⟨fun e => (by cases e), fun ⟨hs, e, hh, _⟩ => ?_⟩)
        injection e with e
        subst e
        exfalso
        refine c (List.all_eq_true.mpr fun b hb => ?_)
        obtain ⟨x, hx, rfl⟩ := List.mem_map.mp hb
        obtain ⟨h, hm, rfl⟩ := List.mem_map.mp hx
        have := hh h hm
        exact decide_eq_true (by omega)
  · have hq : ∀ {b : Bool}, b = false → (b = true ↔ WOk deep d) := fun e => ⟨fun e2 => (by rw [e] at e2; cases e2), fun ⟨a, e2, _⟩ => absurd ⟨_, e2⟩ ht⟩
    have kit : PySem.W.kitOne K (.type (tyN d)) (.type "list") = some false := by
      cases d with
      | none => exact kit_ty (a := "NoneType") (b := "list") (by decide +kernel)
      | bool b => exact kit_ty (a := "bool") (b := "list") (by decide +kernel)
      | int b => exact kit_ty (a := "int") (b := "list") (by decide +kernel)
      | str b => exact kit_ty (a := "str") (b := "list") (by decide +kernel)
      | list b => exact absurd ⟨b, rfl⟩ ht
      | tuple b => exact kit_ty (a := "tuple") (b := "list") (by decide +kernel)
      | dict b => exact kit_ty (a := "dict") (b := "list") (by decide +kernel)
    exact ⟨_, rfl, v, .ty "list", _, _, false, rfl, .ty "list", hk.ty, kit, false, rfl, iteF (q _ _ (Same.refl H) (hq rfl))⟩
end
end TA

set_option Elab.async false
set_option maxRecDepth 100000
set_option maxHeartbeats 4000000
namespace TA
open PySem L2 PyProof.Rows
set_option linter.unusedVariables false
theorem upf_map {α β : Type} (f : α → β) (g : Nat → α) (h : Nat) (x : α) (i : Nat) : upf (fun j => f (g j)) h (f x) i = f (upf g h x i) := by
  unfold upf
  by_cases e : i = h
  · rw [if_pos e, if_pos e]
  · rw [if_neg e, if_neg e]
theorem ints_set (l : Nat → Nat) {h : Nat} (hh : h < 2) (n : Nat) : ([.int (l 0 : Nat), .int (l 1 : Nat)] : List V).set h (.int (n : Int)) = [.int (upf l h n 0 : Nat), .int (upf l h n 1 : Nat)] := by
  have := two_set (fun j => V.int (l j : Nat)) hh (V.int (n : Int))
  rw [upf_map (fun n : Nat => V.int (n : Int)) l h n 0, upf_map (fun n : Nat => V.int (n : Int)) l h n 1] at this
  exact this
def outs (m : M) (d : Nat) (v : Nat → V) (h : Nat) : V := if m.l h = d then v h else .non
theorem int_eq {a b : Nat} : (V.int (a : Int) = V.int (b : Int)) ↔ a = b := ⟨fun e => by injection e with e; omega, fun e => by rw [e]⟩
structure RaiseC (K : PySem.W.Frag) (mg : Str → Option Value) (n : Str) (C : Addr) : Prop where
  m : mg n = some (.ref C)
  x : PySem.W.excIn K C [.type "ValueError", .type "Exception", .type "BaseException", .type "object"] "ValueError.__new__" = true
  k : PySem.W.keepIn K (.ref C) = true
  b : PySem.W.subIn K (.ref C) (.type "BaseException") = some true
  t : PySem.W.typeIn K (.ref C) = some (.type "type")
def spKnownX (K : PySem.W.Frag) (cR cI cW : Addr) : Sp := fun vs H Q E => ∃ (iv wv dv : V) (di dw dd : PyData), vs = [iv, wv, dv] ∧ Kd K H iv di ∧ Kd K H wv dw ∧ Kd K H dv dd ∧ (∀ ds, di = .tuple ds → ds.length ≤ 1000) ∧ (∀ ds, dw = .list ds → ds.length ≤ 1000) ∧
  (within dd 0 5 = false → ∀ H', Same H H' → E (.ref cR) none H') ∧ (within dd 0 5 = true → ¬ IOk di → ∀ H', Same H H' → E (.ref cI) none H') ∧
  (∀ d : Nat, dd = .int (d : Int) → d ≤ 5 → IOk di → ¬ WOk d dw → ∀ H', Same H H' → E (.ref cW) none H') ∧
  (∀ d : Nat, dd = .int (d : Int) → d ≤ 5 → IOk di → WOk d dw → ∀ (o : Addr) (H' : Hp), Same H H' → Q (.ref o) H')
theorem vs_ints {K : PySem.W.Frag} {H : Hp} : ∀ {hs : List Nat} {vs : List V}, DpAll K H vs (hs.map fun h : Nat => PyData.int (h : Int)) → vs = hl hs
  | [], _, h => by cases h; rfl
  | x :: r, _, h => by
    cases h with
    | cons a b =>
      cases a
      rw [vs_ints b]
      rfl
theorem len_counts : ∀ hs : List Nat, (∀ h ∈ hs, h < 2) → hs.length = hs.count 0 + hs.count 1
  | [], _ => rfl
  | h :: r, q => by
    have ih := len_counts r (fun x hx => q x (List.mem_cons_of_mem _ hx))
    have h2 := q h List.mem_cons_self
    rw [List.length_cons, List.count_cons, List.count_cons, ih]
    rcases h with _ | _ | h
    · simp; omega
    · simp; omega
    · omega
section
variable {P : Program} {w : World} {K : PySem.W.Frag} {mg : Str → Option Value} {base : Heap}
abbrev nKnown : List Str := ["inputs", "weaving", "rounds", "knows", "cells", "looks", "hand"]
theorem scKnown : FnScope nKnown ["inputs", "weaving", "rounds"] (defScope sKnown) := ⟨rfl, rfl, rfl, by decide +kernel, rfl, by decide +kernel, by decide +kernel⟩
theorem ok_knownX {f g1 g2 g3 g4 cR cI cW : Addr} {fd d1 d2 d3 d4 : FuncData} (F : Fun K "known" "known" sKnown f fd) (T : Txt K mg) (U : Txt2 K mg) (R1 : RaiseC K mg "NoRounds" cR) (R2 : RaiseC K mg "NoInputs" cI) (R3 : RaiseC K mg "NoWeaving" cW) (W1 : Def P w K mg base "is_whole_within" ["thing", "least", "most"] 2 (spWithinG K) g1 d1)
    (W2 : Def P w K mg base "is_inputs" ["thing"] 2 (spInputsG K) g2 d2) (W3 : Def P w K mg base "is_weaving" ["thing", "rounds"] 4 (spWeavingG K) g3 d3) (W4 : Def P w K mg base "put_in" ["cells", "at"] 1 (spPut K) g4 d4) :
    FnOk P w K mg base (L2.CX P w) 5 f fd ["inputs", "weaving", "rounds"] (spKnownX K cR cI cW) := by
  refine F.okX scKnown (fun vs H Q E h => ?_) (fun cdv A outer s H vs Q E hr h => ?_)
  · obtain ⟨iv, wv, dv, di, dw, dd, rfl, _⟩ := h
    rfl
  obtain ⟨iv, wv, dv, di, dw, dd, rfl, ki, kw, kd, zi, zw, q1, q2, q3, q4⟩ := h
  obtain ⟨t5, m5⟩ := U.five
  obtain ⟨hA, mH, hH⟩ := U.hands
  have nd := scKnown.nd
  refine ⟨_, pss_cons (ps_if (pt_not (pt_val (pe_call W1.G (hr.mono (by decide)) rfl W1.m W1.k W1.b .nil pass0 (pa_cons (pv 2) (pa_cons pe_int (pa_cons (pe_glob (v := .int 5) rfl m5 ⟨_, rfl⟩) pa_nil)))))) (pss_one (ps_raise rfl (takes_of rfl rfl rfl rfl) (pmk_own PySem.F.excBase_ValueError R1.x R1.m R1.k (raises_own R1.b R1.t) (by exact rfl)))) pss_nil)
    (pss_cons (ps_if (pt_not (pt_val (pe_call W2.G (hr.mono (by decide)) rfl W2.m W2.k W2.b .nil pass0 (pa_cons (pv 0) pa_nil)))) (pss_one (ps_raise rfl (takes_of rfl rfl rfl rfl) (pmk_own PySem.F.excBase_ValueError R2.x R2.m R2.k (raises_own R2.b R2.t) (by exact rfl)))) pss_nil)
    (pss_cons (ps_if (pt_not (pt_val (pe_call W3.G (hr.mono (by decide)) rfl W3.m W3.k W3.b .nil pass0 (pa_cons (pv 1) (pa_cons (pv 2) pa_nil))))) (pss_one (ps_raise rfl (takes_of rfl rfl rfl rfl) (pmk_own PySem.F.excBase_ValueError R3.x R3.m R3.k (raises_own R3.b R3.t) (by exact rfl)))) pss_nil)
    (PSs.nox (pss_cons (ps_set (i := 3) nd rfl (Or.inr rfl) (pe_callTy call_list_of (by rfl) T.list boot_list (pa_cons (pv 0) pa_nil)))
    (pss_cons (ps_set (i := 4) nd rfl (Or.inl rfl) (pe_lst (pa_cons (pe_lst pa_nil) (pa_cons (pe_lst pa_nil) pa_nil))))
    (pss_cons (ps_set (i := 5) nd rfl (Or.inr rfl) (pe_lst (pa_cons pe_int (pa_cons pe_int pa_nil))))
    (pss_cons (ps_for PassesOwn.never rfl (pi_list (pv 1)) (pg_name (i := 6) nd rfl (Or.inl rfl))
      (pss_one (ps_if (pt_cmpR op_gt (pe_callB call_len_seq (by rfl) T.len PySem.boot_len (pa_cons (pe_ix ix_list (pv 4) (pv 6) (fun _ _ => rfl)) pa_nil)) (pe_ix ix_list (pv 5) (pv 6) (fun _ _ => rfl)) (nomark _))
        (pss_cons (ps_asg (pe_tup (pa_cons (pe_ix ix_list (pv 3) (pv 6) (fun _ _ => rfl)) (pa_cons (pe_call W4.G (hr.mono (by decide)) rfl W4.m W4.k W4.b .nil pass0 (pa_cons (pe_ix ix_list (pv 4) (pe_op op_sub pe_int (pv 6)) (fun _ _ => rfl)) (pa_cons (pe_ix ix_list (pv 5) (pv 6) (fun _ _ => rfl)) pa_nil))) pa_nil))) (pg_sub (pv 3) (pv 6) set_list))
          (pss_one (ps_augS (pv 5) (pv 6) get_list pe_int ip_add set_list)))
        (pss_one (ps_expr (pe_bm PySem.F.plainAttrs_list PySem.F.slot_list_append PySem.F.type_list_append mt_append (pe_ix ix_list (pv 4) (pv 6) (fun _ _ => rfl)) (pa_cons (pe_ix ix_list (pv 3) (pv 6) (fun _ _ => rfl)) pa_nil)))))))
    (pss_one (ps_ret (pe_lc (own := [("hand", 6)]) (g := gName 6) (tt := tYes) (te := tIf (tTest (tOp rEq (tOp (rIxL K) (tVar 5) (tVar 6)) (tVar 2))) (tOp (rIxL K) (tVar 3) (tVar 6)) (tC .non)) rfl nd (pi_tup (pe_glob (v := .ref hA) rfl mH rfl)) (blkOk_by (N := nKnown) (sc := defScope sKnown) (by decide +kernel)) (fun _ _ _ _ _ => pg_name (i := 6) nd rfl (Or.inl rfl)) (fun _ _ _ _ _ => pts_nil)
      (fun _ _ _ _ _ => (by refine pe_ifExp ?_ ?_ pe_non; (refine pt_cmpR op_eq ?_ (pv 2) (nomark _); exact pe_ix ix_list (pv 5) (pv 6) (fun _ _ => rfl)); (exact pe_ix ix_list (pv 3) (pv 6) (fun _ _ => rfl)))))))))))))), ?_⟩
  have bf : ∀ {b : Bool} {P : Prop}, (b = true ↔ P) → ¬ P → b = false := fun h n => Bool.eq_false_iff.mpr (fun e => n (h.mp e))
  refine ⟨_, rfl, dv, dd, 0, 5, rfl, kd, within dd 0 5, rfl, ?_⟩
  by_cases w0 : within dd 0 5 = true
  case neg =>
    rw [Bool.eq_false_iff.mpr w0]
    exact iteT (q1 (Bool.eq_false_iff.mpr w0) _ (Same.refl H))
  obtain ⟨d, rfl, hd⟩ : ∃ d : Nat, dd = .int (d : Int) ∧ d ≤ 5 := by
    cases dd with
    | int n =>
      have := of_decide_eq_true (show decide ((0 : Int) ≤ n ∧ n ≤ 5) = true from w0)
      exact ⟨n.toNat, by rw [show ((n.toNat : Nat) : Int) = n by omega], by omega⟩
    | _ => exact Bool.noConfusion (show false = true from w0)
  have edv : dv = .int (d : Int) := by
    cases kd with
    | dp h => cases h; rfl
  subst edv
  rw [w0]
  refine iteF ⟨_, rfl, iv, di, rfl, ki, zi, fun b1 H1 s1 hb1 => ⟨b1, rfl, ?_⟩⟩
  by_cases io : IOk di
  case neg =>
    rw [bf hb1 io]
    exact iteT (q2 w0 io _ s1)
  rw [hb1.mpr io]
  refine iteF ⟨_, rfl, _, rfl, wv, dw, d, rfl, kd_mono s1 kw, zw, fun b2 H2 s2 hb2 => ⟨b2, rfl, ?_⟩⟩
  have s12 := s1.trans s2
  by_cases wo : WOk d dw
  case neg =>
    rw [bf hb2 wo]
    exact iteT (q3 d rfl hd io wo _ s12)
  rw [hb2.mpr wo]
  refine iteF ?_
  have q := q4 d rfl hd io wo
  obtain ⟨a, b, rfl, ha, hb⟩ := io
  obtain ⟨hs, rfl, hh, hc⟩ := wo
  obtain ⟨t, rfl, ht⟩ : ∃ t, iv = .ref t ∧ SqT K H t [.int a, .int b] := by
    cases ki with
    | dp h =>
      cases h with
      | tup x y =>
        cases y with
        | cons y1 y2 =>
          cases y2 with
          | cons y2 y3 =>
            cases y1; cases y2; cases y3
            exact ⟨_, rfl, x⟩
  obtain ⟨p, rfl, hS⟩ : ∃ p, wv = .ref p ∧ SqL K H p (hl hs) := by
    cases kw with
    | dp h =>
      cases h with
      | lst x y =>
        have e := vs_ints y
        rw [e] at x
        exact ⟨_, rfl, x⟩
  have hz : hs.length ≤ 40 := by
    have := len_counts hs hh
    have := hc 0 (by decide)
    have := hc 1 (by decide)
    omega
  refine ⟨_, rfl, t, _, rfl, .inr (seqT_mono s12 ht), fun kn hkn => ?_⟩
  refine ⟨Nat.zero_le _, fun c0 hc0 => ⟨Nat.zero_le _, fun c1 hc1 => ⟨(by show 2 ≤ sizeLine; decide), fun ce hce => ?_⟩⟩⟩
  refine ⟨(by show 2 ≤ sizeLine; decide), fun lo hlo => ?_⟩
  have sa := same_new hkn (.lst [V.int a, V.int b])
  have sb := sa.trans (same_new hc0 (.lst []))
  have sc := sb.trans (same_new hc1 (.lst []))
  have sd := sc.trans (same_new hce (.lst [V.ref c0, V.ref c1]))
  have se := sd.trans (same_new hlo (.lst [V.int 0, V.int 0]))
  have K0 : KS H2 (upd (upd (upd (upd (upd H2 kn (.lst [V.int a, V.int b])) c0 (.lst [])) c1 (.lst [])) ce (.lst [V.ref c0, V.ref c1])) lo (.lst [V.int 0, V.int 0])) kn ce lo (fun i => if i = 0 then c0 else c1) (M0 a b) := by
    have q1 := upd_same (H := H2) (a := kn) (o := .lst [V.int a, V.int b])
    have q2 := upd_same (H := upd H2 kn (.lst [V.int a, V.int b])) (a := c0) (o := .lst [])
    have q3 := upd_same (H := upd (upd H2 kn (.lst [V.int a, V.int b])) c0 (.lst [])) (a := c1) (o := .lst [])
    have q4 := upd_same (H := upd (upd (upd H2 kn (.lst [V.int a, V.int b])) c0 (.lst [])) c1 (.lst [])) (a := ce) (o := .lst [V.ref c0, V.ref c1])
    have b2 := same_new hc0 (.lst [])
    have b3 := same_new hc1 (.lst [])
    have b4 := same_new hce (.lst [V.ref c0, V.ref c1])
    have b5 := same_new hlo (.lst [V.int 0, V.int 0])
    have two : ∀ {R : Addr → Prop}, R c0 → R c1 → ∀ h < 2, R ((fun i : Nat => if i = 0 then c0 else c1) h) := fun r0 r1 h hh => by
      rcases h with _ | _ | h
      · exact r0
      · exact r1
      · omega
    refine { same := se, f1 := hkn, f2 := sc.free hce, f3 := sd.free hlo, f4 := two (R := fun c => H2 c = none) (sa.free hc0) (sb.free hc1), n1 := ne_of_none (b3 _ _ (b2 _ _ q1)) hce, n2 := ne_of_none (b4 _ _ (b3 _ _ (b2 _ _ q1))) hlo, n3 := two (R := fun c => kn ≠ c) (ne_of_none q1 hc0) (ne_of_none (b2 _ _ q1) hc1), n4 := ne_of_none q4 hlo, n5 := two (R := fun c => ce ≠ c) (ne_of_none (b3 _ _ q2) hce).symm (ne_of_none q3 hce).symm, n6 := two (R := fun c => lo ≠ c) (ne_of_none (b4 _ _ (b3 _ _ q2)) hlo).symm (ne_of_none (b4 _ _ q3) hlo).symm, n7 := ne_of_none q2 hc1, hk := ⟨fun i => if i = 0 then .int a else .int b, b5 _ _ (b4 _ _ (b3 _ _ (b2 _ _ q1))), fun h hh => ?_⟩, he := b5 _ _ q4, ho := upd_same, hc := ?_ }
    · rcases h with _ | _ | h
      · exact .int a
      · exact .int b
      · omega
    · intro h hh
      rcases h with _ | _ | h
      · exact ⟨[], b5 _ _ (b4 _ _ (b3 _ _ q2)), .nil⟩
      · exact ⟨[], b5 _ _ (b4 _ _ q3), .nil⟩
      · omega
  generalize (fun i : Nat => if i = 0 then c0 else c1) = cs at K0
  have lenH : (hl hs).length = hs.length := List.length_map _
  refine ⟨_, rfl, p, rfl, ⟨_, (s12.trans se).seq hS⟩, for_list (K := K) (a := p) (xs := hl hs) (fun i σ Hc => ∃ g, σ = [some (.ref t), some (.ref p), some (.int (d : Int)), some (.ref kn), some (.ref ce), some (.ref lo), g] ∧ KS H2 Hc kn ce lo cs ((M0 a b).run (hs.take i))) ⟨none, rfl, K0⟩ ?_ ?_ ?_⟩
  · rintro i σ Hc _ ⟨g, _, S⟩
    exact (s12.trans S.same).seq hS
  · rintro i x σ Hc hx ⟨g, rfl, S⟩
    obtain ⟨z, rfl, hz1⟩ := hl_at hx
    have hz2 : z < 2 := hh z (List.mem_of_getElem? hz1)
    have er : (M0 a b).run (hs.take (i + 1)) = ((M0 a b).run (hs.take i)).step z := by
      rw [List.take_add_one, hz1]
      exact M.run_snoc _ _ _
    rw [er]
    have hdn : ((M0 a b).run (hs.take i)).done z ≤ 40 := by
      rw [M.done_run]
      have h1 := List.count_le_length (a := z) (l := hs.take i)
      rw [List.length_take] at h1
      show 0 + 0 + _ ≤ 40
      omega
    generalize (M0 a b).run (hs.take i) = m at S hdn ⊢
    obtain ⟨v, hk, hkn'⟩ := S.hk
    obtain ⟨ws, hw, hwa⟩ := S.hc z hz2
    have hwl := hwa.len
    have he2 := at_two (fun i => V.ref (cs i)) hz2
    have ho2 := at_two (fun i => V.int ((m.l i : Nat) : Int)) hz2
    refine ⟨_, rfl, _, rfl, ce, _, _, _, rfl, rfl, SqL.of S.he, he2, cs z, ws, rfl, .inl (SqL.of hw), _, rfl, _, rfl, lo, _, _, _, rfl, rfl, SqL.of S.ho, ho2, _, _, rfl, rfl, _, rfl, ?_⟩
    refine ite2 (fun c1 => ?_) (fun c1 => ?_)
    · have c2 : ((m.l z : Nat) : Int) < ((ws.length : Nat) : Int) := of_decide_eq_true c1
      have c3 : m.l z < (m.c z).length := by omega
      obtain ⟨ws2, hw2, hwa2⟩ := S.hc (1 - z) (by omega)
      have he3 : atI [V.ref (cs 0), V.ref (cs 1)] ((1 : Int) - (z : Int)) = some (.ref (cs (1 - z))) := by
        rw [show (1 : Int) - (z : Int) = ((1 - z : Nat) : Int) by omega]
        exact at_two (fun i => V.ref (cs i)) (by omega)
      refine ⟨_, rfl, _, rfl, kn, _, _, _, rfl, rfl, SqL.of hk, at_two v hz2, _, rfl, _, rfl, _, _, rfl, rfl, ce, _, _, _, rfl, rfl, SqL.of S.he, he3, _, rfl, _, rfl, lo, _, _, _, rfl, rfl, SqL.of S.ho, ho2, cs (1 - z), ws2, m.l z, rfl, SqL.of hw2, (by show 2 ≤ sizeLine; decide), fun q0 hq0 => ?_⟩
      have n1 := ne_of_none hk hq0
      have n2 := ne_of_none S.ho hq0
      refine ⟨_, rfl, _, rfl, kn, [v 0, v 1], _, z, rfl, rfl, by rw [upd_ne n1]; exact hk, ixN_two hz2, ?_⟩
      have ho3 : (upd (upd Hc q0 (.tup [v z, ws2.getD (m.l z) .non])) kn (.lst ([v 0, v 1].set z (.ref q0)))) lo = some (.lst [.int (m.l 0 : Nat), .int (m.l 1 : Nat)]) := by
        rw [upd_ne S.n2.symm, upd_ne n2]
        exact S.ho
      refine ⟨_, rfl, _, rfl, lo, _, z, _, rfl, rfl, SqL.of ho3, two_get (fun i => V.int ((m.l i : Nat) : Int)) hz2, _, _, rfl, rfl, lo, [.int (m.l 0 : Nat), .int (m.l 1 : Nat)], _, z, rfl, rfl, ho3, ixN_two hz2, ?_⟩
      refine ⟨_, rfl, ?_⟩
      have r := S.look hz2 c3 hk hkn' (hwa2.getD (m.l z)) hq0
      rw [← two_set v hz2, ← ints_set m.l hz2] at r
      exact r
    · have c2 : ¬ ((m.l z : Nat) : Int) < ((ws.length : Nat) : Int) := of_decide_eq_false (Bool.eq_false_iff.mpr c1)
      have c3 : ¬ m.l z < (m.c z).length := by omega
      have hsz : ws.length < sizeLine := by
        unfold M.done at hdn
        exact Nat.lt_of_le_of_lt (show ws.length ≤ 40 by omega) (by decide)
      refine ⟨_, rfl, _, rfl, ce, _, _, _, rfl, rfl, SqL.of S.he, he2, .inl ⟨rfl, _, SqL.of hw⟩, _, rfl, _, rfl, kn, _, _, _, rfl, rfl, SqL.of hk, at_two v hz2, cs z, ws, _, rfl, rfl, hw, hsz, ?_⟩
      exact ⟨_, rfl, S.put hz2 c3 hw hwa (hkn' z hz2)⟩
  · rintro σ Hc ⟨g, rfl, S⟩
    rw [lenH, List.take_length] at S
    have wf := M.wf_run (M.wf0 a b) hh
    have dn : ∀ h < 2, ((M0 a b).run hs).done h ≤ 2 * d := fun h h2 => by
      rw [M.done_run]
      have := hc h h2
      show 0 + 0 + _ ≤ _
      omega
    generalize (M0 a b).run hs = m at S wf dn ⊢
    obtain ⟨v, hk, hkn'⟩ := S.hk
    refine ⟨hA, rfl, ⟨_, hH _⟩, fun D hD => ?_⟩
    refine tup_turns (xs := [V.int 0, V.int 1]) (fun i H' => Same Hc H' ∧ H' D = some (.lst ([outs m d v 0, outs m d v 1].take i))) ⟨same_new hD _, upd_same⟩ (fun i H' _ h => hH _) ?_ ?_
    · rintro i x H' hx ⟨s3, h3⟩
      obtain ⟨rfl, hi⟩ := nat_two hx
      have fin : ∀ H'', Same H' H'' → ∃ acc, H'' D = some (.lst acc) ∧ acc.length < sizeLine ∧ (Same Hc (upd H'' D (.lst (acc ++ [outs m d v i]))) ∧ (upd H'' D (.lst (acc ++ [outs m d v i]))) D = some (.lst ([outs m d v 0, outs m d v 1].take (i + 1)))) := fun H'' s4 => by
        refine ⟨_, s4 _ _ h3, Nat.lt_of_le_of_lt (List.length_take_le i _) (Nat.lt_of_lt_of_le hi (by decide)), same_upd (s3.trans s4) hD, ?_⟩
        rw [upd_same, List.take_add_one, two_get (outs m d v) hi]
        all_goals rfl
      refine ⟨rfl, _, rfl, _, rfl, lo, _, _, _, rfl, rfl, SqL.of (s3 _ _ S.ho), at_two (fun i => V.int ((m.l i : Nat) : Int)) hi, _, rfl, rfl, _, rfl, ?_⟩
      refine ite2 (fun c1 => ?_) (fun c1 => ?_)
      · have c2 : m.l i = d := int_eq.mp (of_decide_eq_true c1)
        have r := fin H' (Same.refl _)
        rw [show outs m d v i = v i by unfold outs; rw [if_pos c2]] at r
        exact ⟨_, rfl, _, rfl, kn, _, _, _, rfl, rfl, SqL.of (s3 _ _ hk), at_two v hi, r⟩
      · have c2 : ¬ m.l i = d := fun e => c1 (decide_eq_true (int_eq.mpr e))
        have r := fin H' (Same.refl _)
        rw [show outs m d v i = .non by unfold outs; rw [if_neg c2]] at r
        exact r
    · rintro H' ⟨s3, h3⟩
      have sH := s12.trans (S.same.trans s3)
      exact q D H' sH
end
end TA

set_option Elab.async false
set_option maxRecDepth 100000
set_option maxHeartbeats 4000000
namespace TA
open PySem L2 PyProof.Rows
set_option linter.unusedVariables false
def spWeavX (K : PySem.W.Frag) (cR : Addr) : Sp := fun vs H Q E => ∃ (v : V) (d : PyData), vs = [v] ∧ Kd K H v d ∧ within d 0 3 = false ∧ ∀ H', Same H H' → E (.ref cR) none H'
/-- isinstance of the error that an except suite holds: which class it has is said by the reading -/
theorem call_isE2 {X : Cx} {a : Addr} {oe : Obj} {cls : Value} {d : Option Addr} {pn : List (Addr × Obj)} (hz : Zc cls d oe) (hf : ∃ vs, oe.data = .fields vs) : CallR (X.suite a ((a, oe) :: pn)) (.builtin "isinstance") (fun xs H Q => ∃ D : Addr, cls = .ref D ∧ d = none ∧ ExcC X.K D ∧ rIsE X.K D a xs H Q) := by
  intro pins s σ H xs us Q I r h
  obtain ⟨D, rfl, rfl, T, h⟩ := h
  exact call_isE T hz hf pins s σ H xs us Q I r h
section
variable {P : Program} {w : World} {K : PySem.W.Frag} {mg : Str → Option Value} {base : Heap}
theorem scWeavX : FnScope ["rounds", "steps", "woven", "begun", "hand"] ["rounds"] (defScope sWeav) := ⟨rfl, rfl, rfl, by decide +kernel, rfl, by decide +kernel, by decide +kernel⟩
theorem ok_weavX {f g cR : Addr} {fd gd : FuncData} (F : Fun K "weavings" "weavings" sWeav f fd) (three : ∃ t, mg "MOST_WOVEN" = some (.int 3 t)) (R1 : RaiseC K mg "NoRounds" cR) (W1 : Def P w K mg base "is_whole_within" ["thing", "least", "most"] 2 (spWithinG K) g gd) :
    FnOk P w K mg base (L2.CX P w) 3 f fd ["rounds"] (spWeavX K cR) := by
  refine F.okX scWeavX (fun vs H Q E h => ?_) (fun cdv A outer s H vs Q E hr h => ?_)
  · obtain ⟨v, d, rfl, _⟩ := h
    rfl
  obtain ⟨v, d, rfl, hk, hw, q⟩ := h
  obtain ⟨t3, m3⟩ := three
  refine ⟨_, pss_cons (ps_if (pt_not (pt_val (pe_call W1.G hr rfl W1.m W1.k W1.b .nil pass0 (pa_cons (pv 0) (pa_cons pe_int (pa_cons (pe_glob (v := .int 3) rfl m3 ⟨_, rfl⟩) pa_nil)))))) (pss_one (ps_raise rfl (takes_of rfl rfl rfl rfl) (pmk_own PySem.F.excBase_ValueError R1.x R1.m R1.k (raises_own R1.b R1.t) (by exact rfl)))) pss_nil) pss_never, ?_⟩
  refine ⟨_, rfl, v, d, 0, 3, rfl, hk, within d 0 3, rfl, ?_⟩
  rw [hw]
  exact iteT (q _ (Same.refl H))
end
end TA

set_option Elab.async false
set_option maxRecDepth 100000
set_option maxHeartbeats 4000000
namespace TA
open PySem L2 PyProof.Rows LamX
set_option linter.unusedVariables false
/-- xs.count(y) over data -/
def rCntD (K : PySem.W.Frag) : V → List V → Hp → VK → Prop := fun x xs H Q => ∃ (p : Addr) (vs : List V) (y : V) (ds : List PyData) (d : PyData), x = .ref p ∧ xs = [y] ∧ SqL K H p vs ∧ DpAll K H vs ds ∧ Dp K H y d ∧ PyData.plainAll ds = true ∧ d.plain = true ∧ d.depth ≤ 10 ∧ Q (.int ((ds.countP fun z => PyData.eqv z d : Nat) : Int)) H
theorem mt_countD {X : Cx} (hu : X.A.units + 64 < cLine) : MtR X "list.count" (rCntD X.K) := by
  intro pins s σ H x xs v us Q I rx rxs h
  obtain ⟨p, vs, y, ds, d, rfl, rfl, hs, hd, hy, h1, h2, h3, q⟩ := h
  cases rx
  cases rxs with
  | @cons _ u _ ur ry rn =>
    cases rn
    obtain ⟨its, rv, pl, hz⟩ := I.list hs
    obtain ⟨as, r1⟩ := Dp.readsAll I ds _ its hd rv
    obtain ⟨bs, r2⟩ := Dp.reads I d _ _ hy ry
    have := Nat.min_le_right (PyData.depthAll ds) d.depth
    exact PySem.SeqAt.count_list_data pl.isList r1 r2 h1 h2 (by omega) ⟨.int _, H, I.tok _, ⟨_, rfl⟩, q⟩
/-- what _law_said asks of a class of refusals -/
structure SaidC (K : PySem.W.Frag) (cA cR cI cW cN D : Addr) (n : Nat) : Prop where
  t : ExcC K D
  e : PySem.W.exmOne K (.ref D) (.ref cA) = some true
  k0 : PySem.W.kitOne K (.ref D) (.ref cR) = some (decide (n = 0))
  k1 : PySem.W.kitOne K (.ref D) (.ref cI) = some (decide (n = 1))
  k2 : PySem.W.kitOne K (.ref D) (.ref cW) = some (decide (n = 2))
  k3 : PySem.W.kitOne K (.ref D) (.ref cN) = some (decide (n = 3))
  kv : PySem.W.kitOne K (.ref D) (.type "ValueError") = some true
structure SaidT (mg : Str → Option Value) (cA cR cI cW cN : Addr) : Prop where
  isi : mg "isinstance" = none
  ve : mg "ValueError" = none
  a : mg "AloneError" = some (.ref cA)
  r : mg "NoRounds" = some (.ref cR)
  i : mg "NoInputs" = some (.ref cI)
  w : mg "NoWeaving" = some (.ref cW)
  n : mg "NoKnown" = some (.ref cN)
def wordOf (n : Nat) : Str := if n = 0 then "rounds" else if n = 1 then "inputs" else "weaving"
def TTsaid (K : PySem.W.Frag) (cA cR cI cW cN : Addr) : (XK → Hp → VK → Prop) → Hp → VK → Prop := fun tl H Q =>
  tl (fun cls d H' => ∃ (D : Addr) (n : Nat), n < 3 ∧ cls = .ref D ∧ d = none ∧ SaidC K cA cR cI cW cN D n ∧ ∀ H'', Same H' H'' → Q (.str (wordOf n)) H'') H (fun _ H' => Q (.str "told") H')
abbrev nSaid : List Str := ["_law_ask", "e", "_law_some"]
theorem scSaid : FnScope nSaid ["_law_ask"] (defScope sSaid) := ⟨rfl, rfl, rfl, by decide +kernel, rfl, by decide +kernel, by decide +kernel⟩
theorem takes_len {X : Cx} {W : WX} (t : Takes X W) : Takes X (fun cls d σ H => σ.length = X.N.length → W cls d σ H) := fun u s' ⟨a, B, sI, pins, σ, H, cls, d, e, I, nb, up, sky, na, os, ag, w⟩ =>
  t u s' ⟨a, B, sI, pins, σ, H, cls, d, e, I, nb, up, sky, na, os, ag, w I.len⟩
def fourD (n : Nat) : List PyData := [.bool (decide (n = 0)), .bool (decide (n = 1)), .bool (decide (n = 2)), .bool (decide (n = 3))]
def fourV (n : Nat) : List V := [.bl (decide (n = 0)), .bl (decide (n = 1)), .bl (decide (n = 2)), .bl (decide (n = 3))]
theorem lt3 {n : Nat} (h : n < 3) : n = 0 ∨ n = 1 ∨ n = 2 := by omega
theorem four_all {K : PySem.W.Frag} {H : Hp} (n : Nat) : DpAll K H (fourV n) (fourD n) := .cons (.bl _) (.cons (.bl _) (.cons (.bl _) (.cons (.bl _) .nil)))
theorem four_count {n : Nat} (h : n < 3) : ((fourD n).countP fun z => PyData.eqv z (.bool true)) = 1 := by
  obtain rfl | rfl | rfl := lt3 h <;> decide +kernel
theorem four_plain (n : Nat) : PyData.plainAll (fourD n) = true := rfl
theorem four_shaped (n : Nat) : SeqAt.shaped (.list (fourD n)) = true := rfl
theorem four_at {n : Nat} (h : n < 3) : (fourD n)[n]? = some (.bool true) := by
  obtain rfl | rfl | rfl := lt3 h <;> rfl
theorem four_no {n : Nat} (h : n < 3) : ∀ (m : Nat) (z' : PyData), m < n → (fourD n)[m]? = some z' → PyData.eqv z' (.bool true) = false := by
  intro m z' hm e
  obtain rfl | rfl | rfl := lt3 h
  · omega
  · obtain rfl : m = 0 := by omega
    cases e; decide +kernel
  · obtain rfl | rfl : m = 0 ∨ m = 1 := by omega
    · cases e; decide +kernel
    · cases e; decide +kernel
theorem four_word {n : Nat} (h : n < 3) : atI [V.str "rounds", V.str "inputs", V.str "weaving", V.str "other"] (n : Int) = some (.str (wordOf n)) := by
  obtain rfl | rfl | rfl := lt3 h <;> rfl
theorem pss_read {X : Cx} {b : List Stmt} {T : TS} (h : ∀ (pins : List (Addr × Obj)) (s : Shared) (σ : L2.St) (H : Hp) (D : Ends), Inv X pins σ H s → T D σ H → ∃ t, PSs X b t ∧ t D σ H) : PSs X b T := ⟨fun pins s σ H D I q => by
  obtain ⟨t, p, r⟩ := h pins s σ H D I q
  exact p.run pins s σ H D I r⟩
theorem said_gives {X : Cx} {g cA cR cI cW cN : Addr} {cdg : Value} {q : Str} {k : Nat} (hr : Room (k + 1) X.A) (T : SaidT X.mg cA cR cI cW cN) :
    GivesTo X nSaid "_law_said" (defScope sSaid) g cdg (defBody sSaid) "_law_ask" q (TTsaid X.K cA cR cI cW cN) := by
  intro f c' s H Q tl act hc h
  have nd := scSaid.nd
  have hr' := hr.deeper (envOfC "_law_said" (defScope sSaid) s.heap.objs.size g cdg)
  have hu65 : ((cxOf C8.CX0 X.prog X.w X.K X.mg X.base nSaid "_law_said" (defScope sSaid) g cdg X.A X.stack s H C8.E0).nox).A.units + 65 < cLine := by
    have := hr'.un
    show (X.A.deeper (envOfC "_law_said" (defScope sSaid) s.heap.objs.size g cdg)).units + 65 < cLine
    omega
  refine ⟨_, pss_cons (ps_try_as (i := 1) (tb := fun W D σ H => ∃ Ech : XK, (∀ cls d σ' H', Ech cls d H' → σ'.length = 3 → W cls d σ' H') ∧ σ[0]? = some (some (.ref f)) ∧ H c' = some (CodeO c' q) ∧ tl Ech H fun _ H' => D.nx σ H')
      (ts := fun a cls d D σ H => σ[1]? = some (some (.ref a)) ∧ σ.length = 3 ∧ ∃ (C : Addr) (n : Nat), n < 3 ∧ cls = .ref C ∧ d = none ∧ SaidC X.K cA cR cI cW cN C n ∧ ∀ H'', Same H H'' → D.rt (.str (wordOf n)) H'')
      rfl rfl nd rfl rfl ⟨rfl, by decide, .inl T.a⟩ L2.takes0 (fun W pn xe tk _ => ?B) (fun a oe cls d pn hz hf => ?S))
    (pss_one (ps_ret pe_str)), ?_⟩
  case B =>
    refine ⟨fun pins s' σ H' D I h' => ?_⟩
    obtain ⟨Ech, hW, h1, h2, h3⟩ := h'
    have hp := fun p1 p2 => act _ pn xe Ech p1 p2 (takes_len tk) (fun cls d σ' H' e l => hW cls d σ' H' e l)
    exact (pss_one (ps_expr (hp _ _))).run pins s' σ H' D I ⟨h1, h2, h3⟩
  case S =>
    refine pss_read fun pins s' σ H' D I h' => ?_
    obtain ⟨h1, hl, C, n, hn, rfl, rfl, SC, h⟩ := h'
    obtain ⟨a0, a2, rfl⟩ : ∃ a0 a2, σ = [a0, some (.ref a), a2] := by
      match σ, hl, h1 with
      | [x, y, z], _, h1 => exact ⟨x, z, by rw [Option.some.inj h1]⟩
    have isi := call_isE2 (X := (cxOf C8.CX0 X.prog X.w X.K X.mg X.base nSaid "_law_said" (defScope sSaid) g cdg X.A X.stack s H C8.E0).nox) (a := a) (pn := pn) hz hf
    refine ⟨_, pss_cons (ps_set (i := 2) nd rfl (Or.inl rfl) (pe_lst
          (pa_cons (pe_callB isi (by rfl) T.isi boot_isinstance (pa_cons (pv 1) (pa_cons (pe_glob (v := .ref cR) rfl T.r rfl) pa_nil)))
          (pa_cons (pe_callB isi (by rfl) T.isi boot_isinstance (pa_cons (pv 1) (pa_cons (pe_glob (v := .ref cI) rfl T.i rfl) pa_nil)))
          (pa_cons (pe_callB isi (by rfl) T.isi boot_isinstance (pa_cons (pv 1) (pa_cons (pe_glob (v := .ref cW) rfl T.w rfl) pa_nil)))
          (pa_cons (pe_callB isi (by rfl) T.isi boot_isinstance (pa_cons (pv 1) (pa_cons (pe_glob (v := .ref cN) rfl T.n rfl) pa_nil))) pa_nil))))))
        (pss_cons (ps_if (PW.pt (pw_or (pt_cmpR op_ne (pe_bm PySem.F.plainAttrs_list PySem.F.slot_list_count PySem.F.type_list_count (mt_countD (Nat.lt_of_succ_lt hu65)) (pv 2) (pa_cons pe_bl pa_nil)) pe_int (nomark _))
            (pw_or1 (pt_not (pt_val (pe_callB isi (by rfl) T.isi boot_isinstance (pa_cons (pv 1) (pa_cons (pe_bltn (v := .ty "ValueError") (by rfl) T.ve (by decide +kernel) rfl) pa_nil)))))))) (pss_one (ps_ret pe_str)) pss_nil)
        (pss_one (ps_ret (pe_ix ix_list (pe_lst (pa_cons pe_str (pa_cons pe_str (pa_cons pe_str (pa_cons pe_str pa_nil))))) (pe_bm PySem.F.plainAttrs_list PySem.F.slot_list_index PySem.F.type_list_index (mt_indexD hu65) (pv 2) (pa_cons pe_bl pa_nil)) (fun _ _ => rfl))))), ?_⟩
    refine ⟨_, rfl, C, rfl, rfl, SC.t, .ref cR, .ref cR, _, rfl, (fun u h => h), SC.k0, _, rfl, C, rfl, rfl, SC.t, .ref cI, .ref cI, _, rfl, (fun u h => h), SC.k1, _, rfl, C, rfl, rfl, SC.t, .ref cW, .ref cW, _, rfl, (fun u h => h), SC.k2, _, rfl, C, rfl, rfl, SC.t, .ref cN, .ref cN, _, rfl, (fun u h => h), SC.k3, (by show 4 ≤ sizeLine; decide), fun l hl => ?_⟩
    have e1 := upd_same (H := H') (a := l) (o := .lst (fourV n))
    refine ⟨_, rfl, .inl ⟨rfl, _, SqL.of e1⟩, l, fourV n, .bl true, fourD n, .bool true, rfl, rfl, SqL.of e1, four_all n, .bl true, four_plain n, rfl, (by decide), ?_⟩
    rw [four_count hn]
    refine ⟨rfl, _, rfl, iteF ⟨_, rfl, C, rfl, rfl, SC.t, .ty "ValueError", _, true, rfl, (fun u h => h), SC.kv, true, rfl, iteF ?_⟩⟩
    refine ⟨(by show 4 ≤ sizeLine; decide), fun l2 hl2 => ?_⟩
    have s1 := same_new hl (.lst (fourV n))
    have s2 := same_new hl2 (.lst [V.str "rounds", V.str "inputs", V.str "weaving", V.str "other"])
    have e2 := s2 _ _ e1
    refine ⟨_, rfl, .inl ⟨rfl, _, SqL.of e2⟩, l, .bl true, .bool true, fourD n, n, .bool true, rfl, rfl, .lst (SqL.of e2) (four_all n), .bl true, four_shaped n, rfl, four_at hn, (by decide +kernel), four_no hn, ?_⟩
    exact ⟨l2, _, _, _, rfl, rfl, SqL.of upd_same, four_word hn, h _ (s1.trans s2)⟩
  · refine ⟨_, fun cls d σ' H' e l => ?_, rfl, hc, h⟩
    obtain ⟨C, n, hn, rfl, rfl, SC, q⟩ := e
    refine ⟨true, SC.e, fun _ a ha => ⟨?_, ?_, C, n, hn, rfl, rfl, SC, q⟩, fun e => nomatch e⟩
    · rw [List.getElem?_set_self (by omega)]
    · rw [List.length_set, l]
end TA

set_option Elab.async false
set_option maxRecDepth 100000
set_option maxHeartbeats 4000000
namespace TA
open PySem L2 PyProof.Rows LamX
set_option linter.unusedVariables false
/-! where nothing is under way: repr -/
/-- what a def keeps where no repr is under way around it -/
structure Quiet (P : Program) (w : World) (K : PySem.W.Frag) (mg : Str → Option Value) (base : Heap) (k : Nat) (f : Addr) (fd : FuncData) (ps : List Str) (sp : Sp) : Prop where
  len : ∀ vs H Q E, sp vs H Q E → vs.length = ps.length
  run : ∀ (A : Around) (outer : List Env) (s : Shared) (H : Hp) (args : Args) (us : List Value) (vs : List V) (Q : VK) (E : XK), A.guards = some [] → Room k A → Env0 P w K mg base A outer s H → BindsTo s fd args (ps.zip us) → Vals vs us → sp vs H Q E →
    codeAny (model P w) A (.call (.ref f) args) (CR CX0 outer P w H s Q E) s
section
variable {P : Program} {w : World} {K : PySem.W.Frag} {mg : Str → Option Value} {base : Heap}
theorem quiet_of {x qual : Str} {st : Stmt} {f : Addr} {fd : FuncData} {N ps : List Str} {k : Nat} {sp : Sp} (F : Fun K x qual st f fd) (S : FnScope N ps (defScope st)) (len : ∀ vs H Q E, sp vs H Q E → vs.length = ps.length)
    (body : ∀ (cdv : Value) (A : Around) (outer : List Env) (s : Shared) (H : Hp) (vs : List V) (Q : VK) (E : XK), A.guards = some [] → Room k (A.deeper (envOfC qual (defScope st) s.heap.objs.size f cdv)) → sp vs H Q E →
      ∃ t, PSs (cxOf CX0 P w K mg base N qual (defScope st) f cdv A outer s H E).nox (defBody st) t ∧ t { nx := fun _ H' => Q .non H', rt := Q } (L2.start N vs) H) : Quiet P w K mg base (k + 1) f fd ps sp := by
  obtain ⟨oc, od, kV, doc, pm, an, cdv, ct, osl, rfl, lk, hcd⟩ := F.ex
  refine ⟨len, fun A outer s H args us vs Q E hg hr e0 hb hv hs => ?_⟩
  refine run_ofS (N := N) (ps := ps) lk hcd S hr e0 hb hv (len _ _ _ _ hs) fun hr2 => ?_
  obtain ⟨t, p, q⟩ := body cdv A outer s H vs Q E hg hr2 hs
  exact ⟨t, p.nox, q⟩
theorem pe_quiet {X : Cx} {k : Nat} {f : Addr} {fd : FuncData} {ps : List Str} {sp : Sp} {x : Str} {p pos : Pos} {e : Expr} {es : List Expr} {t : TA} (F : Quiet X.prog X.w X.K X.mg X.base k f fd ps sp) (hq : X.A.guards = some []) (hr : Room k X.A) (hg : Gl X x) (hm : X.mg x = some (.ref f)) (hk : PySem.W.keepIn X.K (.ref f) = true)
    (hb : Binds X.K fd ps []) (ha : PA X (e :: es) t) (hdb : (x == ("__debug__" : Str)) = false := by decide) (he : starEach (e :: es) X.env = (false, eval e X.env) :: starEach es X.env := by rfl) (hpl : (backTo pos (starEach es X.env)).any (·.1) = false := by rfl) :
    PE X (.Call (.Name x p) (e :: es) [] pos) (tCall sp [] E0 t) := by
  refine ⟨fun pins s σ H Q I h => wpAny_Call_Name_kw (ld_glob I hg hm ?_ hdb)⟩
  refine PySem.W.callWith_K (h₀ := X.base) I.ok.mod.kin hk (thn (ha.run pos pins s σ H _ I h) fun us s1 hh => ?_) he hpl
  obtain ⟨vs, H1, J, r, q⟩ := hh
  rw [List.append_nil] at q
  have hl : us.length = ps.length := r.length.symm.trans (F.len _ _ _ _ q)
  have b := hb s1 us J.kIn (by rw [List.append_nil]; exact hl)
  rw [List.append_nil] at b
  refine ⟨J.kIn, wpAny_call (codeAny_mono (F.run X.A X.stack s1 H1 ⟨us, []⟩ us vs Q E0 hq hr J.env0 b r q) fun r s' c => ?_)⟩
  match r, c with
  | .error _, c => exact False.elim c
  | .ok (.ret u), c => exact J.after c
end
/-! things shown -/
/-- a list display: its place is none of the model's own -/
def tLstF (t : TA) : TE := fun σ H Q => t σ H fun xs H1 => xs.length ≤ sizeLine ∧ ∀ l, H1 l = none → l ≠ sysModules → Q (.ref l) (upd H1 l (.lst xs))
theorem pe_lstF {X : Cx} {es : List Expr} {t : TA} {pos : Pos} (h : PA X es t) : PE X (.List es pos) (tLstF t) := by
  refine ⟨fun pins s σ H Q I hq => wpAny_List_spliced (thn (h.run pos pins s σ H _ I hq) fun us s1 hh => ?_)⟩
  obtain ⟨xs, H1, J, r, z, q⟩ := hh
  refine ⟨r.length ▸ z, .ref s1.heap.objs.size, upd H1 s1.heap.objs.size (.lst xs), ?_, rfl, q _ (J.hok.fresh (Nat.le_refl _)) (fun e => ?_)⟩
  · exact J.laid (t' := s1.toks) (fun b u e => Heap.get?_push_of_some _ e) (Nat.le_refl _) ⟨z, us, 0, r, Heap.get?_push_size _ rfl⟩
  · have b := J.big
    rw [← e] at b
    exact Nat.lt_irrefl _ b
def bare : PyData → Bool
  | .none | .bool _ | .int _ | .str _ => true
  | _ => false
/-- one level at most -/
def flatD : PyData → Bool
  | .list ds | .tuple ds => ds.all bare
  | .dict _ => false
  | _ => true
theorem bare_one {h : Heap} {u : Value} {d : PyData} {as : List Addr} (b : bare d = true) (r : Reads h u d as) : as = [] := by
  cases r with
  | none => rfl
  | bool _ => rfl
  | int _ _ => rfl
  | str _ _ => rfl
  | list _ _ _ _ => cases b
  | tuple _ _ _ _ => cases b
  | dict _ _ _ _ _ => cases b
theorem bare_reads {h : Heap} {ds : List PyData} (z : ds.all bare = true) : ∀ {vs : List Value} {as : List Addr}, ReadsAll h vs ds as → as = [] := by
  induction ds with
  | nil => intro vs as r; cases r; rfl
  | cons d r ih =>
    intro vs as q
    rw [List.all_cons, Bool.and_eq_true] at z
    cases q with
    | cons a b => rw [ih z.2 b, bare_one z.1 a]; rfl
theorem flat_reads {h : Heap} {u : Value} {d : PyData} {as : List Addr} (r : Reads h u d as) (f : flatD d = true) (n : ∀ p, u = .ref p → (∃ ds, d = .list ds) → p ≠ sysModules) : sysModules ∉ as := by
  cases r with
  | none => exact List.not_mem_nil
  | bool _ => exact List.not_mem_nil
  | int _ _ => exact List.not_mem_nil
  | str _ _ => exact List.not_mem_nil
  | @list a _ _ _ _ _ _ _ _ q =>
    rw [bare_reads f q]
    intro z
    rw [List.mem_singleton] at z
    exact n a rfl ⟨_, rfl⟩ z.symm
  | tuple _ _ _ q =>
    rw [bare_reads f q]
    exact List.not_mem_nil
  | dict _ _ _ _ _ => cases f
theorem Kd.reads {X : Cx} {pins : List (Addr × Obj)} {σ : L2.St} {H : Hp} {s : Shared} (I : Inv X pins σ H s) {v : V} {d : PyData} (h : Kd X.K H v d) {u : Value} (r : RelV v u) : ∃ as, Reads s.heap u d as ∧ (d = .dict [] → sysModules ∉ as) := by
  cases h with
  | dp h =>
    obtain ⟨as, q⟩ := Dp.reads I d _ _ h r
    exact ⟨as, q, fun e => by subst e; cases h⟩
  | @dic a h =>
    obtain rfl : u = Value.ref a := r
    obtain ⟨_, ne, vs, kv, o, es, ep, e1, e2, e3, _, e4, _⟩ := dk_of I.hok h
    cases kv
    have e : es.toList = [] := by
      have := e4.length
      exact List.length_eq_zero_iff.mp this
    refine ⟨[a], ?_, fun _ z => ?_⟩
    · have h1 : ReadsAll s.heap (es.toList.map (·.key)) (([] : List (PyData × PyData)).map (·.1)) [] := by rw [e]; exact .nil
      have h2 : ReadsAll s.heap (es.toList.map (·.val)) (([] : List (PyData × PyData)).map (·.2)) [] := by rw [e]; exact .nil
      exact Reads.dict e1 e2.1 e3 h1 h2
    · rw [List.mem_singleton] at z
      rw [← z] at ne
      exact absurd ne (by decide)
mutual
theorem dp_noDict {K : PySem.W.Frag} {H : Hp} : ∀ (d : PyData) (v : V), Dp K H v d → d.hasDict = false
  | .none, _, _ => rfl
  | .bool _, _, _ => rfl
  | .int _, _, _ => rfl
  | .str _, _, _ => rfl
  | .list ds, _, h => by
    cases h with
    | lst _ b => exact dpAll_noDict ds _ b
  | .tuple ds, _, h => by
    cases h with
    | tup _ b => exact dpAll_noDict ds _ b
  | .dict _, _, h => by cases h
theorem dpAll_noDict {K : PySem.W.Frag} {H : Hp} : ∀ (ds : List PyData) (vs : List V), DpAll K H vs ds → PyData.hasDictAll ds = false
  | [], _, _ => rfl
  | d :: ds, _, h => by
    cases h with
    | cons a b =>
      show (d.hasDict || PyData.hasDictAll ds) = false
      rw [dp_noDict d _ a, dpAll_noDict ds _ b]
      rfl
end
/-- repr([x, y]): x one level at most where y is an empty dict -/
def rPair (K : PySem.W.Frag) : List V → Hp → VK → Prop := fun xs H Q => ∃ (l : Addr) (x y : V) (d e : PyData), xs = [.ref l] ∧ l ≠ sysModules ∧ SqL K H l [x, y] ∧ Dp K H x d ∧ Kd K H y e ∧
  flatD d = true ∧ (∀ p, x = .ref p → (∃ ds, d = .list ds) → p ≠ sysModules) ∧ (PyData.list [d, e]).showable = true ∧ (PyData.list [d, e]).depth ≤ 20 ∧ (PyData.list [d, e]).shown.length ≤ sizeLine ∧ Q (.str (PyData.list [d, e]).shown) H
theorem call_pair {X : Cx} (hg : X.A.guards = some []) (hu : X.A.units + 64 < cLine) : CallR X (.builtin "repr") (rPair X.K) := by
  intro pins s σ H xs us Q I r h
  obtain ⟨l, x, y, d, e, rfl, nl, hl, hx, hy, hf, np, h1, h2, h3, q⟩ := h
  cases r with
  | @cons _ u _ ur ru rn =>
    cases rn
    obtain rfl : u = Value.ref l := ru
    obtain ⟨its, rv, ⟨⟨cls, dd, data, sls⟩, n, ho, hc, hdn, hdt⟩, hlen⟩ := I.list hl
    simp only at hc hdt
    subst hc hdt
    cases rv with
    | @cons _ u1 _ _ r1 rv =>
      cases rv with
      | @cons _ u2 _ _ r2 rv =>
        cases rv
        obtain ⟨as, ra⟩ := Dp.reads I d _ _ hx r1
        obtain ⟨bs, rb, nb⟩ := hy.reads I r2
        have na := flat_reads ra hf fun p ep ⟨zs, ed⟩ => by
          subst ed ep
          cases hx with
          | @lst a _ _ _ _ =>
            have e0 : Value.ref p = Value.ref a := r1
            injection e0 with e0
            subst e0
            exact np _ rfl ⟨_, rfl⟩
        have R : Reads s.heap (.ref l) (.list [d, e]) (l :: (as ++ (bs ++ []))) := .list ho rfl rfl (.cons ra (.cons rb .nil))
        refine PySem.repr_of_reads' R h1 (fun hd => ?_) hg (by omega) (fun _ _ z => z) (fun h' u tk hk => ⟨.str _, H, I.kept (t' := tk) hk, ⟨_, rfl⟩, q⟩) h3
        have he : e = .dict [] := by
          cases hy with
          | dp z =>
            exfalso
            have hd : (d.hasDict || (e.hasDict || false)) = true := hd
            rw [dp_noDict d _ hx, dp_noDict e _ z] at hd
            cases hd
          | dic _ => rfl
        simp only [List.mem_cons, List.mem_append, List.append_nil, not_or]
        exact ⟨nl.symm, na, nb he⟩
end TA

set_option Elab.async false
set_option maxRecDepth 100000
set_option maxHeartbeats 4000000
namespace TA
open PySem L2 PyProof.Rows
set_option linter.unusedVariables false
/-- all but what stands at a is as it was -/
def But (a : Addr) (H H' : Hp) : Prop := ∀ b o, b ≠ a → H b = some o → H' b = some o
def WellAt (H : Hp) (a : Addr) (n : Int) : Prop := ∃ x y z : Int, H a = some (.lst [.int x, .int y, .int z]) ∧ 0 ≤ x ∧ 0 ≤ y ∧ y < 2147483629 ∧ 0 ≤ z ∧ z ≤ n
theorem But.trans {a : Addr} {H H1 H2 : Hp} (h : But a H H1) (g : But a H1 H2) : But a H H2 := fun b o e q => g b o e (h b o e q)
theorem But.same {a : Addr} {H H' : Hp} (s : Same H H') : But a H H' := fun b o _ q => s b o q
theorem WellAt.same {H H' : Hp} {a : Addr} {n : Int} (s : Same H H') (w : WellAt H a n) : WellAt H' a n := by
  obtain ⟨x, y, z, h, r⟩ := w
  exact ⟨x, y, z, s _ _ h, r⟩
theorem WellAt.up {H : Hp} {a : Addr} {n m : Int} (w : WellAt H a n) (h : n ≤ m) : WellAt H a m := by
  obtain ⟨x, y, z, e, r1, r2, r3, r4, r5⟩ := w
  exact ⟨x, y, z, e, r1, r2, r3, r4, by omega⟩
theorem But.free {a : Addr} {H H' : Hp} {m : Int} (b : But a H H') (w : WellAt H' a m) {q : Addr} (h : H' q = none) : H q = none := by
  obtain ⟨x, y, z, e, _⟩ := w
  have nq : q ≠ a := fun c => by rw [c, e] at h; cases h
  cases g : H q with
  | none => rfl
  | some o => rw [b q o nq g] at h; cases h
def spDraw2 : Sp := fun vs H Q _ => ∃ (a : Addr) (n m : Int), vs = [.ref a, .int m] ∧ WellAt H a n ∧ n < 999999 ∧ 0 < m ∧ m < 2 ^ 100 ∧ ∀ (r : Int) (H' : Hp), 0 ≤ r → r < m → But a H H' → WellAt H' a (n + 1) → Q (.int r) H'
def spOne2 : Sp := fun vs H Q _ => ∃ (a l : Addr) (n : Int) (xs : List V), vs = [.ref a, .ref l] ∧ WellAt H a n ∧ n < 999999 ∧ H l = some (.lst xs) ∧ a ≠ l ∧ 0 < xs.length ∧ xs.length < 1000 ∧ ∀ (i : Nat) (v : V) (H' : Hp), xs[i]? = some v → But a H H' → WellAt H' a (n + 1) → Q v H'
theorem weak {P : Program} {w : World} {K : PySem.W.Frag} {mg : Str → Option Value} {base : Heap} {k : Nat} {f : Addr} {fd : FuncData} {ps : List Str} {sp sp' : Sp} (F : FnOk P w K mg base CX0 k f fd ps sp) (i : ∀ vs H Q E, sp' vs H Q E → sp vs H Q E) : FnOk P w K mg base CX0 k f fd ps sp' :=
  ⟨fun vs H Q E h => F.len vs H Q E (i _ _ _ _ h), fun A outer s H args us vs Q E a b c d h => F.run A outer s H args us vs Q E a b c d (i _ _ _ _ h)⟩
theorem draw_weak (vs : List V) (H : Hp) (Q : VK) (E : XK) (h : spDraw2 vs H Q E) : spDraw vs H Q E := by
  obtain ⟨a, n, m, rfl, ⟨x, y, z, e, r1, r2, r3, r4, r5⟩, hn, hm, hm2, q⟩ := h
  exact ⟨a, x, y, z, m, rfl, e, r1, r2, r3, r4, by omega, hm, hm2, fun r x' z' h0 h1 hx hz hz2 => q r _ h0 h1 (fun b o nb hb => by rw [upd_ne nb]; exact hb) ⟨x', y, z', upd_same, hx, r2, r3, by omega, by omega⟩⟩
theorem one_weak {K : PySem.W.Frag} (vs : List V) (H : Hp) (Q : VK) (E : XK) (h : spOne2 vs H Q E) : spOne K vs H Q E := by
  obtain ⟨a, l, n, xs, rfl, ⟨x, y, z, e, r1, r2, r3, r4, r5⟩, hn, hl, al, l0, l1, q⟩ := h
  exact ⟨a, l, x, y, z, xs, rfl, e, r1, r2, r3, r4, by omega, hl, al, l0, l1, fun i v x' z' hv hx hz hz2 => q i v _ hv (fun b o nb hb => by rw [upd_ne nb]; exact hb) ⟨x', y, z', upd_same, hx, r2, r3, by omega, by omega⟩⟩
/-- a weaving that is drawn -/
def spLW : Sp := fun vs H Q _ => ∃ (a : Addr) (n : Int) (d : Nat) (st : Bool), vs = [.ref a, .int (d : Int), .bl st] ∧ WellAt H a n ∧ n ≤ 900000 ∧ d ≤ 5 ∧
  ∀ (o : Addr) (hs : List Nat) (H' : Hp), But a H H' → WellAt H' a (n + 100) → H o = none → H' o = some (.lst (hl hs)) → (∀ h ∈ hs, h < 2) → (∀ h < 2, hs.count h ≤ 2 * d) → Q (.ref o) H'
def avail (l : Nat → Nat) (i : Nat) : List Nat := (([0, 1] : List Nat).take i).filter fun h => decide (0 < l h)
theorem avail_mem {l : Nat → Nat} {i h : Nat} (m : h ∈ avail l i) : h < 2 ∧ 0 < l h := by
  unfold avail at m
  obtain ⟨m1, m2⟩ := List.mem_filter.mp m
  have m3 := List.mem_of_mem_take m1
  have : h = 0 ∨ h = 1 := by simpa using m3
  exact ⟨by omega, of_decide_eq_true m2⟩
theorem avail_step {l : Nat → Nat} {i : Nat} (hi : i < 2) : avail l (i + 1) = if 0 < l i then avail l i ++ [i] else avail l i := by
  unfold avail
  have e : ([0, 1] : List Nat)[i]? = some i := two_get (fun i => i) hi
  rw [List.take_add_one, e, List.filter_append]
  by_cases c : 0 < l i
  · rw [if_pos c]; simp [c]
  · rw [if_neg c]; simp [c]
theorem avail_len (l : Nat → Nat) (i : Nat) : (avail l i).length ≤ 2 := by
  unfold avail
  refine Nat.le_trans (List.length_filter_le _ _) ?_
  rw [List.length_take]
  exact Nat.min_le_right _ _
theorem avail_pos {l : Nat → Nat} (h : 0 < l 0 + l 1) : 0 < (avail l 2).length := by
  rw [avail_step (by decide), avail_step (by decide)]
  by_cases c : 0 < l 1
  · rw [if_pos c, List.length_append]; show 0 < _ + 1; omega
  · rw [if_neg c, if_pos (show 0 < l 0 by omega), List.length_append]; show 0 < _ + 1; omega
theorem hl_snoc (hs : List Nat) (z : Nat) : hl hs ++ [V.int (z : Int)] = hl (hs ++ [z]) := by
  unfold hl
  rw [List.map_append]
  rfl
theorem join {b : Bool} {X : Prop} {R : Hp → Prop} {H : Hp} (Iv : Hp → Prop) (h0 : Iv H) (k : ∀ Hc, Iv Hc → R Hc) (h1 : (∀ Hc, Iv Hc → R Hc) → X) : if b = true then X else R H := by
  cases b with
  | false => exact iteF (k H h0)
  | true => exact iteT (h1 k)
def LWI (H : Hp) (a mn lf fo : Addr) (n : Int) (d : Nat) (st : Bool) (m : Nat) (σ : L2.St) (Hc : Hp) : Prop := ∃ (l : Nat → Nat) (hs : List Nat) (g1 g2 : Option V), m = l 0 + l 1 ∧
  σ = [some (.ref a), some (.int (d : Int)), some (.bl st), some (.ref mn), some (.ref lf), some (.ref fo), g1, g2] ∧ But a H Hc ∧ WellAt Hc a (n + 2 + 3 * (20 - ((l 0 + l 1 : Nat) : Int))) ∧
  Hc lf = some (.lst [.int (l 0 : Nat), .int (l 1 : Nat)]) ∧ Hc fo = some (.lst (hl hs)) ∧ (∀ h ∈ hs, h < 2) ∧ ∀ h < 2, hs.count h + l h ≤ 2 * d
theorem But.upd {a p : Addr} {H H' : Hp} {o : HO} (b : But a H H') (f : H p = none) : But a H (L2.upd H' p o) := fun c u nc e => by
  rw [upd_ne (ne_of_none e f)]
  exact b _ _ nc e
theorem WellAt.upd {a p : Addr} {H : Hp} {o : HO} {n : Int} (w : WellAt H a n) (f : a ≠ p) : WellAt (L2.upd H p o) a n := by
  obtain ⟨x, y, z, e, r⟩ := w
  exact ⟨x, y, z, by rw [upd_ne f]; exact e, r⟩
section
variable {P : Program} {w : World} {K : PySem.W.Frag} {mg : Str → Option Value} {base : Heap}
abbrev nLW : List Str := ["_law_well_here", "_law_deep", "_law_stops", "_law_many", "_law_left", "_law_found", "_law_hand", "_law_step"]
theorem scLW : FnScope nLW ["_law_well_here", "_law_deep", "_law_stops"] (defScope sLawWeav) := ⟨rfl, rfl, rfl, by decide +kernel, rfl, by decide +kernel, by decide +kernel⟩
theorem ok_lw {f g1 g2 : Addr} {fd d1 d2 : FuncData} (F : Fun K "_law_weaving" "_law_weaving" sLawWeav f fd) (T : Txt K mg) (D1 : Def P w K mg base "_law_draw" ["_law_well_here", "_law_many"] 1 spDraw2 g1 d1) (D2 : Def P w K mg base "_law_one" ["_law_well_here", "_law_some"] 2 spOne2 g2 d2) :
    FnOk P w K mg base CX0 3 f fd ["_law_well_here", "_law_deep", "_law_stops"] spLW := by
  refine F.ok scLW (fun vs H Q E h => ?_) (fun cdv A outer s H vs Q E hr h => ?_)
  · obtain ⟨a, n, d, st, rfl, _⟩ := h
    rfl
  obtain ⟨a, n, d, st, rfl, hW, hn, hd, q⟩ := h
  have nd := scLW.nd
  refine ⟨_, pss_cons (ps_set (i := 3) nd rfl (Or.inl rfl) (pe_lst (pa_cons (pe_op op_mul pe_int (pv 1)) (pa_cons (pe_op op_mul pe_int (pv 1)) pa_nil))))
    (pss_cons (ps_if (pt_val (pv 2)) (pss_one (ps_asg (pe_call D1.G (hr.mono (by decide)) rfl D1.m D1.k D1.b .nil pass0 (pa_cons (pv 0) (pa_cons (pe_op op_add (pe_op op_mul pe_int (pv 1)) pe_int) pa_nil))) (pg_sub (pv 3) (pe_call D1.G (hr.mono (by decide)) rfl D1.m D1.k D1.b .nil pass0 (pa_cons (pv 0) (pa_cons pe_int pa_nil))) set_list))) pss_nil)
    (pss_cons (ps_set (i := 4) nd rfl (Or.inr rfl) (pe_callTy call_list_of (by rfl) T.list boot_list (pa_cons (pv 3) pa_nil)))
    (pss_cons (ps_set (i := 5) nd rfl (Or.inl rfl) (pe_lst pa_nil))
    (pss_cons (ps_while PassesOwn.never (pt_cmpR op_gt (pe_callB (cr_sum rfl) (by rfl) T.sum (by decide +kernel) (pa_cons (pv 4) pa_nil)) pe_int (nomark _))
      (pss_cons (ps_set (i := 6) nd rfl (Or.inl rfl) (pe_call D2.G (hr.mono (by decide)) rfl D2.m D2.k D2.b .nil pass0 (pa_cons (pv 0) (pa_cons
          (pe_lc (own := [("_law_hand", 6)]) (g := gName 6) (tt := tTest (tOp (rI0 fun i j => .bl (decide (j < i))) (tOp (rIxL K) (tVar 4) (tVar 6)) (tC (.int 0)))) (te := tVar 6) rfl nd (pi_range1 rfl T.range (pa_cons pe_int pa_nil)) (blkOk_by (N := nLW) (sc := defScope sLawWeav) (by decide +kernel)) (fun _ _ _ _ _ => pg_name (i := 6) nd rfl (Or.inl rfl))
            (fun _ _ _ _ _ => (by refine pts_one (pt_cmpR op_gt ?_ pe_int (nomark _)); exact pe_ix ix_list (pv 4) (pv 6) (fun _ _ => rfl))) (fun _ _ _ _ _ => pv 6)) pa_nil))))
      (pss_one (ps_for PassesOwn.never rfl (pi_range1 rfl T.range (pa_cons (pe_callB (call_min2 rfl) (by rfl) T.min (by decide +kernel) (pa_cons (pe_ix ix_list (pv 4) (pv 6) (fun _ _ => rfl)) (pa_cons (pe_op op_add pe_int (pe_call D1.G (hr.mono (by decide)) rfl D1.m D1.k D1.b .nil pass0 (pa_cons (pv 0) (pa_cons (pe_call D2.G (hr.mono (by decide)) rfl D2.m D2.k D2.b .nil pass0 (pa_cons (pv 0) (pa_cons (pe_lst (pa_cons pe_int (pa_cons pe_int (pa_cons pe_int pa_nil)))) pa_nil))) pa_nil)))) pa_nil))) pa_nil)) (pg_name (i := 7) nd rfl (Or.inl rfl))
        (pss_cons (ps_expr (pe_bm PySem.F.plainAttrs_list PySem.F.slot_list_append PySem.F.type_list_append mt_append (pv 5) (pa_cons (pv 6) pa_nil)))
        (pss_one (ps_asg (pe_op op_sub (pe_ix ix_list (pv 4) (pv 6) (fun _ _ => rfl)) pe_int) (pg_sub (pv 4) (pv 6) set_list))))))))
    (pss_one (ps_ret (pv 5))))))), ?_⟩
  refine ⟨_, rfl, _, _, rfl, rfl, .inl ⟨by decide, by decide⟩, _, rfl, _, _, rfl, rfl, .inl ⟨by decide, by decide⟩, (by show 2 ≤ sizeLine; decide), fun mn hmn => ?_⟩
  obtain ⟨x0, y0, z0, ea, _⟩ := id hW
  have nam : a ≠ mn := ne_of_none ea hmn
  have s0 := same_new hmn (.lst [V.int (2 * (d : Int)), V.int (2 * (d : Int))])
  have hm1 : (upd H mn (.lst [V.int (2 * (d : Int)), V.int (2 * (d : Int))])) mn = some (.lst [V.int (2 * (d : Int)), V.int (2 * (d : Int))]) := upd_same
  have b0 : But a H (upd H mn (.lst [V.int (2 * (d : Int)), V.int (2 * (d : Int))])) := But.same s0
  have w0 : WellAt (upd H mn (.lst [V.int (2 * (d : Int)), V.int (2 * (d : Int))])) a n := hW.same s0
  generalize upd H mn (.lst [V.int (2 * (d : Int)), V.int (2 * (d : Int))]) = H1 at hm1 b0 w0 ⊢
  have e2d : V.int (2 * (d : Int)) = V.int ((2 * d : Nat) : Int) := by congr 1
  refine ⟨_, rfl, st, rfl, ?_⟩
  refine join (H := H1) (fun Hc => But a H Hc ∧ WellAt Hc a (n + 2) ∧ ∃ l : Nat → Nat, Hc mn = some (.lst [.int (l 0 : Nat), .int (l 1 : Nat)]) ∧ ∀ h < 2, l h ≤ 2 * d) ?_ ?_ ?_
  · refine ⟨b0, w0.up (by omega), fun _ => 2 * d, ?_, fun _ _ => Nat.le_refl _⟩
    rw [hm1, e2d]
  · rintro Hc ⟨b1, w1, l, hl1, hl2⟩
    refine ⟨_, rfl, mn, _, rfl, .inl (SqL.of hl1), fun lf hlf => ⟨Nat.zero_le _, fun fo hfo => ?_⟩⟩
    obtain ⟨x1, y1, z1, ec, _⟩ := id w1
    have nalf : a ≠ lf := ne_of_none ec hlf
    have s1 := same_new hlf (.lst [V.int (l 0 : Nat), V.int (l 1 : Nat)])
    have s2 := s1.trans (same_new hfo (.lst []))
    have nafo : a ≠ fo := ne_of_none (s1 _ _ ec) hfo
    have nlfo : lf ≠ fo := ne_of_none upd_same hfo
    have H0lf : H lf = none := b1.free w1 hlf
    have H0fo : H fo = none := b1.free w1 (s1.free hfo)
    have hlf1 : (upd (upd Hc lf (.lst [V.int (l 0 : Nat), V.int (l 1 : Nat)])) fo (.lst [])) lf = some (.lst [V.int (l 0 : Nat), V.int (l 1 : Nat)]) := by rw [upd_ne nlfo]; exact upd_same
    refine ⟨LWI H a mn lf fo n d st, ⟨l 0 + l 1, l, [], none, none, rfl, rfl, b1.trans (But.same s2), ?_, hlf1, upd_same, (fun h hh => by cases hh), fun h hh => ?_⟩, ?_⟩
    · refine (w1.same s2).up ?_
      have := hl2 0 (by decide)
      have := hl2 1 (by decide)
      omega
    · have := hl2 h hh
      show 0 + _ ≤ _
      omega
    rintro m σ Hw ⟨l, hs, g1, g2, rfl, rfl, bw, ww, hlw, hfw, hh, hcl⟩
    have c0 := hcl 0 (by decide)
    have c1 := hcl 1 (by decide)
    have hlen := len_counts hs hh
    have esum : (([((l 0 : Nat) : Int), ((l 1 : Nat) : Int)] : List Int).sum) = ((l 0 + l 1 : Nat) : Int) := by
      simp [List.sum_cons]
    refine ⟨_, rfl, lf, [((l 0 : Nat) : Int), ((l 1 : Nat) : Int)], rfl, SqL.of hlw, _, _, rfl, rfl, _, rfl, ?_⟩
    rw [esum]
    refine ite2 (fun c => ?_) (fun c => ?_)
    · have cp : (0 : Int) < ((l 0 + l 1 : Nat) : Int) := of_decide_eq_true c
      refine ⟨fun σ' H' => ∃ m', m' < l 0 + l 1 ∧ LWI H a mn lf fo n d st m' σ' H', fun σ' H' h => h, ?_⟩
      refine ⟨_, rfl, 2, rfl, by decide, by decide, fun D hD => ?_⟩
      obtain ⟨xw, yw, zw, ew, _⟩ := id ww
      have naD : a ≠ D := ne_of_none ew hD
      refine range_turns (n := 2) (fun i H' => Same Hw H' ∧ H' D = some (.lst (hl (avail l i)))) ⟨same_new hD _, upd_same⟩ ?_ ?_
      · rintro i H' hi ⟨s3, h3⟩
        have ei : (0 : Int) + (i : Int) = (i : Int) := by omega
        rw [ei]
        refine ⟨rfl, _, rfl, _, rfl, lf, _, _, _, rfl, rfl, SqL.of (s3 _ _ hlw), at_two (fun i => V.int ((l i : Nat) : Int)) hi, _, _, rfl, rfl, _, rfl, ?_⟩
        have al := avail_len l i
        refine ite2 (fun c2 => ?_) (fun c2 => ?_)
        · have c3 : (0 : Int) < ((l i : Nat) : Int) := of_decide_eq_true c2
          refine ⟨_, rfl, _, h3, (by unfold hl; rw [List.length_map]; exact Nat.lt_of_le_of_lt al (by decide)), same_upd s3 hD, ?_⟩
          rw [upd_same, hl_snoc, avail_step hi, if_pos (by omega)]
        · have c3 : ¬ (0 : Int) < ((l i : Nat) : Int) := of_decide_eq_false (Bool.eq_false_iff.mpr c2)
          rw [avail_step hi, if_neg (by omega)]
          exact ⟨s3, h3⟩
      · rintro H' ⟨s3, h3⟩
        have pos := avail_pos (l := l) (by omega)
        have al := avail_len l 2
        have lenA : (hl (avail l 2)).length = (avail l 2).length := List.length_map _
        refine ⟨a, D, _, _, rfl, ww.same s3, by omega, h3, naD, by omega, by omega, fun i v H2 hv b2 w2 => ?_⟩
        obtain ⟨z, rfl, hz⟩ := hl_at hv
        obtain ⟨hz2, hzl⟩ := avail_mem (List.mem_of_getElem? hz)
        have hlw2 : H2 lf = _ := b2 _ _ nalf.symm (s3 _ _ hlw)
        have hfw2 : H2 fo = _ := b2 _ _ nafo.symm (s3 _ _ hfw)
        refine ⟨_, rfl, _, rfl, lf, _, _, _, rfl, rfl, SqL.of hlw2, at_two (fun i => V.int ((l i : Nat) : Int)) hz2, _, rfl, _, rfl, (by show 3 ≤ sizeLine; decide), fun D2 hD2 => ?_⟩
        obtain ⟨xv, yv, zv, ev, _⟩ := id w2
        have s4 := same_new hD2 (.lst [V.int 1, V.int 2, V.int 5])
        refine ⟨a, D2, _, _, rfl, w2.same s4, by omega, upd_same, ne_of_none ev hD2, by decide, by decide, fun i2 v2 H3 hv2 b3 w3 => ?_⟩
        obtain ⟨r, rfl, rp, rq⟩ : ∃ r : Int, v2 = .int r ∧ 0 < r ∧ r ≤ 5 := by
          rcases i2 with _ | _ | _ | i2
          · exact ⟨1, by simpa using hv2.symm, by decide, by decide⟩
          · exact ⟨2, by simpa using hv2.symm, by decide, by decide⟩
          · exact ⟨5, by simpa using hv2.symm, by decide, by decide⟩
          · simp at hv2
        refine ⟨a, _, r, rfl, w3, by omega, rp, by omega, fun r2 H4 p0 p1 b4 w4 => ?_⟩
        have b24 : But a H2 H4 := ((But.same s4).trans b3).trans b4
        have hlw4 : H4 lf = _ := b24 _ _ nalf.symm hlw2
        have hfw4 : H4 fo = _ := b24 _ _ nafo.symm hfw2
        have bw4 : But a H H4 := ((bw.trans (But.same s3)).trans b2).trans b24
        refine ⟨_, _, rfl, rfl, _, _, rfl, ?_⟩
        have hk1 : 1 ≤ (if 1 + r2 < ((l z : Nat) : Int) then 1 + r2 else ((l z : Nat) : Int)) ∧ (if 1 + r2 < ((l z : Nat) : Int) then 1 + r2 else ((l z : Nat) : Int)) ≤ ((l z : Nat) : Int) := by
          split <;> omega
        generalize (if 1 + r2 < ((l z : Nat) : Int) then 1 + r2 else ((l z : Nat) : Int)) = kk at hk1 ⊢
        have hzd := hcl z hz2
        refine ⟨kk, rfl, by omega, by omega, ?_⟩
        refine for_range (n := kk.toNat) (fun j σ Hj => ∃ g2, σ = [some (.ref a), some (.int (d : Int)), some (.bl st), some (.ref mn), some (.ref lf), some (.ref fo), some (.int (z : Int)), g2] ∧ But a H Hj ∧ WellAt Hj a (n + 2 + 3 * (20 - ((l 0 + l 1 : Nat) : Int)) + 1 + 1 + 1) ∧ Hj lf = some (.lst [.int (upf l z (l z - j) 0 : Nat), .int (upf l z (l z - j) 1 : Nat)]) ∧ Hj fo = some (.lst (hl (hs ++ List.replicate j z)))) ?_ ?_ ?_
        · refine ⟨_, rfl, bw4, w4, ?_, by rw [List.replicate_zero, List.append_nil]; exact hfw4⟩
          rw [hlw4, ← ints_set l hz2 (l z - 0), Nat.sub_zero]
          rcases z with _ | _ | z
          · rfl
          · rfl
          · omega
        · rintro j σ Hj hj ⟨g2, rfl, bj, wj, hlj, hfj⟩
          have hszj : (hl (hs ++ List.replicate j z)).length < sizeLine := by
            unfold hl
            rw [List.length_map, List.length_append, List.length_replicate]
            exact Nat.lt_of_le_of_lt (show hs.length + j ≤ 100 by omega) (by decide)
          refine ⟨_, rfl, .inl ⟨rfl, _, SqL.of hfj⟩, _, rfl, fo, _, _, rfl, rfl, hfj, hszj, ?_⟩
          have hlj2 : (upd Hj fo (.lst (hl (hs ++ List.replicate j z) ++ [V.int (z : Int)]))) lf = some (.lst [.int (upf l z (l z - j) 0 : Nat), .int (upf l z (l z - j) 1 : Nat)]) := by
            rw [upd_ne nlfo]; exact hlj
          refine ⟨_, rfl, _, rfl, lf, _, _, _, rfl, rfl, SqL.of hlj2, at_two (fun i => V.int ((upf l z (l z - j) i : Nat) : Int)) hz2, _, _, rfl, rfl, _, rfl, _, rfl, lf, [.int (upf l z (l z - j) 0 : Nat), .int (upf l z (l z - j) 1 : Nat)], _, z, rfl, rfl, hlj2, ixN_two hz2, ?_⟩
          refine ⟨_, rfl, (bj.upd H0fo).upd H0lf, (wj.upd nafo).upd nalf, ?_, ?_⟩
          · rw [upd_same]
            have e1 : ((upf l z (l z - j) z : Nat) : Int) - 1 = ((l z - (j + 1) : Nat) : Int) := by
              rw [upf_same]; omega
            show some (HO.lst (([V.int (upf l z (l z - j) 0 : Nat), V.int (upf l z (l z - j) 1 : Nat)]).set z (V.int (((upf l z (l z - j) z : Nat) : Int) - 1)))) = _
            rw [e1, ints_set (upf l z (l z - j)) hz2]
            have e2 : ∀ i, upf (upf l z (l z - j)) z (l z - (j + 1)) i = upf l z (l z - (j + 1)) i := fun i => by
              unfold upf
              split <;> rfl
            rw [e2, e2]
          · rw [upd_ne nlfo.symm, upd_same, hl_snoc, List.append_assoc, List.replicate_succ']
        · rintro σ Hj ⟨g2, rfl, bj, wj, hlj, hfj⟩
          have ek : kk = ((kk.toNat : Nat) : Int) := by omega
          have hsum : upf l z (l z - kk.toNat) 0 + upf l z (l z - kk.toNat) 1 + kk.toNat = l 0 + l 1 := by
            obtain rfl | rfl : z = 0 ∨ z = 1 := by omega
            · show l 0 - kk.toNat + l 1 + kk.toNat = _; omega
            · show l 0 + (l 1 - kk.toNat) + kk.toNat = _; omega
          refine ⟨_, ?_, upf l z (l z - kk.toNat), hs ++ List.replicate kk.toNat z, some (.int (z : Int)), g2, rfl, rfl, bj, wj.up (by omega), hlj, hfj, ?_, ?_⟩
          · omega
          · intro h hm
            rcases List.mem_append.mp hm with hm | hm
            · exact hh h hm
            · rw [List.eq_of_mem_replicate hm]; exact hz2
          · intro h h2
            have := hcl h h2
            rw [List.count_append, List.count_replicate]
            by_cases e : h = z
            · subst e
              rw [upf_same]
              simp
              omega
            · rw [upf_ne e]
              have e2 : ¬ z = h := fun q => e q.symm
              simp [e2]
              omega
    · have cp : ¬ (0 : Int) < ((l 0 + l 1 : Nat) : Int) := of_decide_eq_false (Bool.eq_false_iff.mpr c)
      exact ⟨_, rfl, q fo hs Hw bw (ww.up (by omega)) H0fo hfw hh (fun h h2 => by have := hcl h h2; omega)⟩
  · intro k
    refine ⟨_, rfl, _, rfl, _, _, rfl, rfl, .inl ⟨by decide, by decide⟩, _, _, rfl, rfl, a, n, _, rfl, w0, by omega, by omega, by omega, fun r H2 r0 r1 b1 w1 => ?_⟩
    refine ⟨_, rfl, _, rfl, a, n + 1, 2, rfl, w1, by omega, by decide, by decide, fun r2 H3 p0 p1 b2 w2 => ?_⟩
    have hm3 : H3 mn = some (.lst [V.int (2 * (d : Int)), V.int (2 * (d : Int))]) := b2 _ _ nam.symm (b1 _ _ nam.symm hm1)
    have hr2 : r2.toNat < 2 := by omega
    have er2 : r2 = ((r2.toNat : Nat) : Int) := by omega
    refine ⟨mn, [V.int (2 * (d : Int)), V.int (2 * (d : Int))], r2, r2.toNat, rfl, rfl, hm3, by rw [er2]; exact ixN_two hr2, ?_⟩
    refine k _ ⟨((b0.trans b1).trans b2).upd hmn, (w2.upd nam).up (by omega), upf (fun _ => 2 * d) r2.toNat r.toNat, ?_, fun h hh => ?_⟩
    · rw [upd_same, e2d, ← ints_set (fun _ => 2 * d) hr2 r.toNat, show ((r.toNat : Nat) : Int) = r by omega]
    · unfold upf
      split
      · omega
      · exact Nat.le_refl _
end
end TA

set_option Elab.async false
set_option maxRecDepth 100000
set_option maxHeartbeats 4000000
namespace TA
open PySem L2 PyProof.Rows LamX
set_option linter.unusedVariables false
/-! the heap without the well and the tables of code -/
def HO.isTbl : HO → Bool
  | .tbl _ => true
  | _ => false
def core (a : Addr) (H : Hp) : Hp := fun b => if b = a then none else match H b with
  | some o => if HO.isTbl o then none else some o
  | none => none
theorem core_at {a b : Addr} {H : Hp} {o : HO} (n : b ≠ a) (h : H b = some o) (t : HO.isTbl o = false) : core a H b = some o := by
  unfold core
  rw [if_neg n, h]
  show (if HO.isTbl o = true then none else some o) = some o
  rw [t]
  rfl
theorem core_of {a b : Addr} {H : Hp} {o : HO} (h : core a H b = some o) : b ≠ a ∧ H b = some o ∧ HO.isTbl o = false := by
  unfold core at h
  by_cases e : b = a
  · rw [if_pos e] at h; cases h
  · rw [if_neg e] at h
    cases g : H b with
    | none => rw [g] at h; cases h
    | some u =>
      rw [g] at h
      cases t : HO.isTbl u with
      | true => simp [t] at h
      | false =>
        simp [t] at h
        subst h
        exact ⟨e, rfl, t⟩
theorem core_same (a : Addr) (H : Hp) : Same (core a H) H := fun b o h => (core_of h).2.1
/-- what matters stays -/
def Cor (a : Addr) (H H' : Hp) : Prop := Same (core a H) (core a H')
theorem Cor.refl (a : Addr) (H : Hp) : Cor a H H := fun _ _ h => h
theorem Cor.trans {a : Addr} {H H1 H2 : Hp} (x : Cor a H H1) (y : Cor a H1 H2) : Cor a H H2 := fun b o h => y b o (x b o h)
theorem But.cor {a : Addr} {H H' : Hp} (h : But a H H') : Cor a H H' := fun b o e => by
  obtain ⟨n, g, t⟩ := core_of e
  exact core_at n (h b o n g) t
theorem ext_cor {a : Addr} {H H' : Hp} (h : ExtN H H') : Cor a H H' := fun b o e => by
  obtain ⟨n, g, t⟩ := core_of e
  exact core_at n (h b o g fun ps z => by subst z; cases t) t
theorem same_cor {a : Addr} {H H' : Hp} (h : Same H H') : Cor a H H' := (But.same h).cor
/-! what is shown shortly -/
structure Nice (d : PyData) : Prop where
  s : d.showable = true
  l : d.leavesShort 64 = true
  w : d.weight ≤ 4000
  p : d.depth ≤ 5
structure Small (d : PyData) : Prop where
  s : d.showable = true
  l : d.leavesShort 64 = true
  w : d.weight ≤ 10
  p : d.depth ≤ 2
theorem small_all : ∀ ds : List PyData, (∀ d ∈ ds, Small d) → PyData.showableAll ds = true ∧ PyData.leavesShortAll 64 ds = true ∧ PyData.weightAll ds ≤ 11 * ds.length ∧ PyData.depthAll ds ≤ 2
  | [], _ => ⟨rfl, rfl, Nat.le_refl _, Nat.zero_le _⟩
  | d :: ds, h => by
    obtain ⟨a, b, c, e⟩ := small_all ds fun x m => h x (List.mem_cons_of_mem _ m)
    have q := h d List.mem_cons_self
    refine ⟨?_, ?_, ?_, ?_⟩
    · show (d.showable && PyData.showableAll ds) = true
      rw [q.s, a]; rfl
    · show (d.leavesShort 64 && PyData.leavesShortAll 64 ds) = true
      rw [q.l, b]; rfl
    · have := q.w
      show d.weight + 1 + PyData.weightAll ds ≤ 11 * (ds.length + 1)
      omega
    · have := q.p
      show max d.depth (PyData.depthAll ds) ≤ 2
      omega
theorem nice_list {ds : List PyData} (h : ∀ d ∈ ds, Small d) (n : ds.length ≤ 90) : Nice (.list ds) := by
  obtain ⟨a, b, c, e⟩ := small_all ds h
  exact ⟨a, b, (by show PyData.weightAll ds ≤ 4000; omega), (by show PyData.depthAll ds + 1 ≤ 5; omega)⟩
theorem nice_tuple {ds : List PyData} (h : ∀ d ∈ ds, Small d) (n : ds.length ≤ 90) : Nice (.tuple ds) := by
  obtain ⟨a, b, c, e⟩ := small_all ds h
  exact ⟨a, b, (by show PyData.weightAll ds ≤ 4000; omega), (by show PyData.depthAll ds + 1 ≤ 5; omega)⟩
theorem small_nice {d : PyData} (h : Small d) : Nice d := ⟨h.s, h.l, by have := h.w; omega, by have := h.p; omega⟩
theorem nice_pair {d e : PyData} (x : Nice d) (y : Nice e) : (PyData.list [d, e]).showable = true ∧ (PyData.list [d, e]).depth ≤ 20 ∧ (PyData.list [d, e]).shown.length ≤ sizeLine := by
  have hl : (PyData.list [d, e]).leavesShort 64 = true := by
    show (d.leavesShort 64 && (e.leavesShort 64 && true)) = true
    rw [x.l, y.l]; rfl
  have hw : (PyData.list [d, e]).weight ≤ 8002 := by
    have := x.w
    have := y.w
    show d.weight + 1 + (e.weight + 1 + 0) ≤ 8002
    omega
  refine ⟨?_, ?_, ?_⟩
  · show (d.showable && (e.showable && true)) = true
    rw [x.s, y.s]; rfl
  · have := x.p
    have := y.p
    show max d.depth (max e.depth 0) + 1 ≤ 20
    omega
  · have := PyData.shown_le 64 (by decide) _ hl
    rw [sizeLine_eq]
    omega
theorem small_hand {h : Nat} (hh : h < 2) : Small (.int (h : Int)) := by
  obtain rfl | rfl : h = 0 ∨ h = 1 := by omega
  · exact ⟨by decide +kernel, by decide +kernel, by decide +kernel, by decide +kernel⟩
  · exact ⟨by decide +kernel, by decide +kernel, by decide +kernel, by decide +kernel⟩
def handsD (hs : List Nat) : List PyData := hs.map fun h : Nat => PyData.int (h : Int)
theorem small_hands {hs : List Nat} (hh : ∀ h ∈ hs, h < 2) : ∀ d ∈ handsD hs, Small d := fun d m => by
  obtain ⟨h, hm, rfl⟩ := List.mem_map.mp m
  exact small_hand (hh h hm)
theorem hands_dp {K : PySem.W.Frag} {H : Hp} : ∀ hs : List Nat, DpAll K H (hl hs) (handsD hs)
  | [] => .nil
  | h :: r => .cons (.int (h : Int)) (hands_dp r)
theorem dpAll_app {K : PySem.W.Frag} {H : Hp} : ∀ {vs ws : List V} {ds es : List PyData}, DpAll K H vs ds → DpAll K H ws es → DpAll K H (vs ++ ws) (ds ++ es)
  | _, _, _, _, .nil, q => q
  | _, _, _, _, .cons a b, q => .cons a (dpAll_app b q)
/-! what is no weaving -/
theorem bad_mem {deep : Nat} {ds : List PyData} {x : PyData} (m : x ∈ ds) (n : ∀ h : Nat, h < 2 → x ≠ .int (h : Int)) : ¬ WOk deep (.list ds) := by
  rintro ⟨hs, e, hh, _⟩
  injection e with e
  rw [e] at m
  obtain ⟨h, hm, rfl⟩ := List.mem_map.mp m
  exact n h (hh h hm) rfl
theorem bad_kind {deep : Nat} {d : PyData} (n : ∀ ds, d ≠ .list ds) : ¬ WOk deep d := fun ⟨hs, e, _⟩ => n _ e
theorem bad_many {deep : Nat} {hs : List Nat} {h : Nat} (hh : h < 2) (n : 2 * deep < hs.count h) : ¬ WOk deep (.list (handsD hs)) := by
  rintro ⟨hs2, e, _, c⟩
  injection e with e
  have e2 : hs = hs2 := by
    have := congrArg (List.map fun d => match d with | PyData.int n => n.toNat | _ => 0) e
    simpa [handsD, List.map_map, Function.comp_def] using this
  subst e2
  exact absurd (c h hh) (by omega)
def Good (K : PySem.W.Frag) (H : Hp) (deep : Nat) (v : V) : Prop := ∃ d, Kd K H v d ∧ Nice d ∧ ¬ WOk deep d ∧ ∀ ds, d = .list ds → ds.length ≤ 1000
theorem Good.mono {K : PySem.W.Frag} {H H' : Hp} {deep : Nat} {v : V} (g : Good K H deep v) (s : Same H H') : Good K H' deep v := by
  obtain ⟨d, a, b⟩ := g
  exact ⟨d, kd_mono s a, b⟩
end TA

set_option Elab.async false
set_option maxRecDepth 100000
set_option maxHeartbeats 4000000
namespace TA
open PySem L2 PyProof.Rows LamX
set_option linter.unusedVariables false
def del (L : Addr) (G : Hp) : Hp := fun b => if b = L then none else G b
theorem del_at {L b : Addr} {G : Hp} {o : HO} (n : b ≠ L) (h : G b = some o) : del L G b = some o := by
  unfold del
  rw [if_neg n]
  exact h
theorem del_of {L b : Addr} {G : Hp} {o : HO} (h : del L G b = some o) : b ≠ L ∧ G b = some o := by
  unfold del at h
  by_cases e : b = L
  · rw [if_pos e] at h; cases h
  · rw [if_neg e] at h; exact ⟨e, h⟩
theorem del_same (L : Addr) (G : Hp) : Same (del L G) G := fun b o h => (del_of h).2
theorem del_mono {L : Addr} {G G' : Hp} (s : Same G G') : Same (del L G) (del L G') := fun b o h => del_at (del_of h).1 (s _ _ (del_of h).2)
theorem del_upd {a L : Addr} {H : Hp} {o : HO} : Same (del L (core a H)) (del L (core a (upd H L o))) := fun b u h => by
  obtain ⟨n, g⟩ := del_of h
  obtain ⟨n2, g2, t⟩ := core_of g
  exact del_at n (core_at n2 (by rw [upd_ne n]; exact g2) t)
theorem rep_one (x : V) : ∀ k : Nat, (List.replicate k [x]).flatten = List.replicate k x
  | 0 => rfl
  | k + 1 => by rw [List.replicate_succ, List.replicate_succ, List.flatten_cons, rep_one x k]; rfl
theorem hl_rep (hs : List Nat) (k h : Nat) : hl hs ++ List.replicate k (V.int (h : Int)) = hl (hs ++ List.replicate k h) := by
  unfold hl
  rw [List.map_append, List.map_replicate]
theorem cut_hl (hs : List Nat) (lo hi : Option Int) : ∃ r, cutV (hl hs) lo hi = hl r ∧ (∀ h ∈ r, h ∈ hs) ∧ r.length ≤ hs.length := by
  unfold cutV hl
  rw [← List.map_drop, ← List.map_take]
  refine ⟨_, rfl, fun h m => List.mem_of_mem_drop (List.mem_of_mem_take m), ?_⟩
  exact Nat.le_trans (List.length_take_le' _ _) (by rw [List.length_drop]; omega)
def spSpoilt (K : PySem.W.Frag) : Sp := fun vs H Q _ => ∃ (a p : Addr) (n : Int) (hs : List Nat) (deep : Nat), vs = [.ref a, .ref p, .int (deep : Int)] ∧ WellAt H a n ∧ n ≤ 900000 ∧ H p = some (.lst (hl hs)) ∧ a ≠ p ∧ (∀ h ∈ hs, h < 2) ∧ hs.length ≤ 30 ∧ deep ≤ 5 ∧
  ∀ (v : V) (H' : Hp), But a H H' → WellAt H' a (n + 3) → Good K (core a H') deep v → Q v H'
/-- what is put among hands and is none -/
def Odd (K : PySem.W.Frag) (H : Hp) (x : V) : Prop := ∃ d, Dp K H x d ∧ Small d ∧ ∀ h : Nat, h < 2 → d ≠ .int (h : Int)
section
variable {P : Program} {w : World} {K : PySem.W.Frag} {mg : Str → Option Value} {base : Heap}
abbrev nSpoilt : List Str := ["_law_well_here", "_law_weaving_here", "_law_deep", "_law_at", "_law_hand", "_law_some", "_law_odd"]
theorem scSpoilt : FnScope nSpoilt ["_law_well_here", "_law_weaving_here", "_law_deep"] (defScope sSpoilt) := ⟨rfl, rfl, rfl, by decide +kernel, rfl, by decide +kernel, by decide +kernel⟩
theorem ok_spoilt {f g1 g2 : Addr} {fd d1 d2 : FuncData} (F : Fun K "_law_spoilt" "_law_spoilt" sSpoilt f fd) (T : Txt K mg) (D1 : Def P w K mg base "_law_draw" ["_law_well_here", "_law_many"] 1 spDraw2 g1 d1) (D2 : Def P w K mg base "_law_one" ["_law_well_here", "_law_some"] 2 spOne2 g2 d2) :
    FnOk P w K mg base CX0 3 f fd ["_law_well_here", "_law_weaving_here", "_law_deep"] (spSpoilt K) := by
  refine F.ok scSpoilt (fun vs H Q E h => ?_) (fun cdv A outer s H vs Q E hr h => ?_)
  · obtain ⟨a, p, n, hs, deep, rfl, _⟩ := h
    rfl
  obtain ⟨a, p, n, hs, deep, rfl, hW, hn, hp, nap, hh, hz, hd, q⟩ := h
  have nd := scSpoilt.nd
  refine ⟨_, pss_cons (ps_set (i := 3) nd rfl (Or.inl rfl) (pe_call D1.G (hr.mono (by decide)) rfl D1.m D1.k D1.b .nil pass0 (pa_cons (pv 0) (pa_cons (pe_op op_add (pe_callB call_len_seq (by rfl) T.len PySem.boot_len (pa_cons (pv 1) pa_nil)) pe_int) pa_nil))))
    (pss_cons (ps_set (i := 4) nd rfl (Or.inl rfl) (pe_call D1.G (hr.mono (by decide)) rfl D1.m D1.k D1.b .nil pass0 (pa_cons (pv 0) (pa_cons pe_int pa_nil))))
    (pss_cons (ps_set (i := 5) nd rfl (Or.inl rfl) (pe_lst
      (pa_cons (pe_op op_cat (pv 1) (pe_op op_rep (pe_lst (pa_cons (pv 4) pa_nil)) (pe_op op_add (pe_op op_mul pe_int (pv 2)) pe_int)))
      (pa_cons (pe_callTy call_tuple_of (by rfl) T.tuple boot_tuple (pa_cons (pv 1) pa_nil))
      (pa_cons pe_non (pa_cons pe_str (pa_cons pe_int (pa_cons pe_dnewK (pa_cons (pe_lst (pa_cons (pv 1) pa_nil)) pa_nil)))))))))
    (pss_cons (ps_for PassesOwn.never rfl (pi_list (pe_lst (pa_cons pe_int (pa_cons (pe_un un_neg pe_int) (pa_cons pe_bl (pa_cons pe_non (pa_cons pe_str (pa_cons (pe_tup (pa_cons pe_int pa_nil)) pa_nil)))))))) (pg_name (i := 6) nd rfl (Or.inl rfl))
      (pss_one (ps_expr (pe_bm PySem.F.plainAttrs_list PySem.F.slot_list_append PySem.F.type_list_append mt_append (pv 5) (pa_cons
        (pe_op op_cat (pe_op op_cat (pe_slice sl_list (pv 1) po_none (po_some (pv 3))) (pe_lst (pa_cons (pv 6) pa_nil))) (pe_slice sl_list (pv 1) (po_some (pe_op op_add (pv 3) pe_int)) po_none)) pa_nil)))))
    (pss_one (ps_ret (pe_call D2.G (hr.mono (by decide)) rfl D2.m D2.k D2.b .nil pass0 (pa_cons (pv 0) (pa_cons (pv 5) pa_nil)))))))), ?_⟩
  have lenH : (hl hs).length = hs.length := List.length_map _
  refine ⟨_, rfl, _, rfl, p, _, rfl, .inl (SqL.of hp), _, _, rfl, rfl, ?_⟩
  refine ⟨a, n, _, rfl, hW, by omega, by omega, by omega, fun r1 H1 r10 r11 b1 w1 => ?_⟩
  refine ⟨_, rfl, a, n + 1, 2, rfl, w1, by omega, by decide, by decide, fun r2 H2 r20 r21 b2 w2 => ?_⟩
  obtain ⟨hand, rfl, hhand⟩ : ∃ hand : Nat, r2 = (hand : Int) ∧ hand < 2 := ⟨r2.toNat, by omega, by omega⟩
  have b12 := b1.trans b2
  have hp2 : H2 p = some (.lst (hl hs)) := b12 _ _ nap.symm hp
  refine ⟨_, rfl, _, rfl, (by show 1 ≤ sizeLine; decide), fun l1 hl1 => ?_⟩
  have s1 := same_new hl1 (.lst [V.int (hand : Int)])
  refine ⟨_, rfl, _, _, rfl, rfl, .inl ⟨by decide, by decide⟩, _, _, rfl, rfl, ?_⟩
  obtain ⟨k, ek, hk⟩ : ∃ k : Nat, (2 * (deep : Int) + 1) = (k : Int) ∧ k = 2 * deep + 1 := ⟨2 * deep + 1, by omega, rfl⟩
  refine ⟨l1, (k : Int), _, rfl, congrArg V.int ek, upd_same, by omega, by omega, (by rw [sizeLine_eq]; show 1 * (k : Int).toNat ≤ _; omega), fun p2 hp2n => ?_⟩
  rw [Int.toNat_natCast, rep_one]
  have s2 := s1.trans (same_new hp2n (.lst (List.replicate k (V.int (hand : Int)))))
  refine ⟨p, p2, hl hs, _, rfl, rfl, s2 _ _ hp2, upd_same, (by rw [sizeLine_eq, lenH, List.length_replicate]; omega), fun p3 hp3 => ?_⟩
  rw [hl_rep]
  have s3 := s2.trans (same_new hp3 (.lst (hl (hs ++ List.replicate k hand))))
  have e3 := upd_same (H := upd (upd H2 l1 (.lst [V.int (hand : Int)])) p2 (.lst (List.replicate k (V.int (hand : Int))))) (a := p3) (o := .lst (hl (hs ++ List.replicate k hand)))
  have f3 := s2.free hp3
  generalize upd (upd (upd H2 l1 (.lst [V.int (hand : Int)])) p2 (.lst (List.replicate k (V.int (hand : Int))))) p3 (.lst (hl (hs ++ List.replicate k hand))) = H3 at s3 e3 ⊢
  refine ⟨_, rfl, p, hl hs, rfl, .inl ⟨SqL.of (s3 _ _ hp2), fun t ht => ?_⟩⟩
  have s4 := s3.trans (same_new ht (.tup (hl hs)))
  have e4 := upd_same (H := H3) (a := t) (o := .tup (hl hs))
  have e43 := same_new ht (.tup (hl hs)) _ _ e3
  have f4 := s3.free ht
  generalize upd H3 t (.tup (hl hs)) = H4 at s4 e4 e43 ⊢
  intro dd hdd
  have s5' := same_new hdd (.dK [])
  have s5 := s4.trans s5'
  have e5 := upd_same (H := H4) (a := dd) (o := .dK [])
  have e54 := s5' _ _ e4
  have e53 := s5' _ _ e43
  have f5 := s4.free hdd
  generalize upd H4 dd (.dK []) = H5 at s5 s5' e5 e54 e53 ⊢
  refine ⟨_, rfl, (by show 1 ≤ sizeLine; decide), fun l7 hl7 => ?_⟩
  have s6' := same_new hl7 (.lst [V.ref p])
  have s6 := s5.trans s6'
  have e6 := upd_same (H := H5) (a := l7) (o := .lst [V.ref p])
  have e65 := s6' _ _ e5
  have e64 := s6' _ _ e54
  have e63 := s6' _ _ e53
  have f6 := s5.free hl7
  generalize upd H5 l7 (.lst [V.ref p]) = H6 at s6 s6' e6 e65 e64 e63 ⊢
  have hp6 := s6 _ _ hp2
  have w6 := w2.same s6
  have b6 := b12.trans (But.same s6)
  obtain ⟨x0, y0, z0, ea2, _⟩ := id w2
  have n3 : p3 ≠ a := fun e => by rw [e, ea2] at f3; cases f3
  have n4 : t ≠ a := fun e => by rw [e, ea2] at f4; cases f4
  have n5 : dd ≠ a := fun e => by rw [e, ea2] at f5; cases f5
  have n6 : l7 ≠ a := fun e => by rw [e, ea2] at f6; cases f6
  refine ⟨(by show 7 ≤ sizeLine; decide), fun L hL => ?_⟩
  have good7 : ∀ x ∈ [V.ref p3, V.ref t, V.non, V.str "0110", V.int 7, V.ref dd, V.ref l7], Good K (core a H6) deep x := by
    have c : ∀ {b o}, b ≠ a → H6 b = some o → HO.isTbl o = false → core a H6 b = some o := fun n h t => core_at n h t
    have hp' := c nap.symm hp6 rfl
    have len3 : (handsD (hs ++ List.replicate k hand)).length = hs.length + k := by
      unfold handsD
      rw [List.length_map, List.length_append, List.length_replicate]
    have hh3 : ∀ h ∈ hs ++ List.replicate k hand, h < 2 := fun h m => by
      rcases List.mem_append.mp m with m | m
      · exact hh h m
      · rw [(List.mem_replicate.mp m).2]; exact hhand
    have dw : Dp K (core a H6) (.ref p) (.list (handsD hs)) := .lst (SqL.of hp') (hands_dp hs)
    have nw : Nice (.list (handsD hs)) := nice_list (small_hands hh) (by unfold handsD; rw [List.length_map]; omega)
    intro x m
    simp only [List.mem_cons, List.not_mem_nil, or_false] at m
    rcases m with rfl | rfl | rfl | rfl | rfl | rfl | rfl
    · refine ⟨_, .dp (.lst (SqL.of (c n3 e63 rfl)) (hands_dp _)), nice_list (small_hands hh3) (by omega), bad_many hhand ?_, fun ds e => ?_⟩
      · rw [List.count_append, List.count_replicate_self]; omega
      · injection e with e
        rw [← e, len3]; omega
    · exact ⟨_, .dp (.tup (SqT.of (c n4 e64 rfl)) (hands_dp _)), nice_tuple (small_hands hh) (by unfold handsD; rw [List.length_map]; omega), bad_kind (fun ds => by intro z; cases z), fun ds z => by cases z⟩
    · exact ⟨_, .dp .non, small_nice ⟨by decide +kernel, by decide +kernel, by decide +kernel, by decide +kernel⟩, bad_kind (fun ds => by intro z; cases z), fun ds z => by cases z⟩
    · exact ⟨_, .dp (.str _), small_nice ⟨by decide +kernel, by decide +kernel, by decide +kernel, by decide +kernel⟩, bad_kind (fun ds => by intro z; cases z), fun ds z => by cases z⟩
    · exact ⟨_, .dp (.int _), small_nice ⟨by decide +kernel, by decide +kernel, by decide +kernel, by decide +kernel⟩, bad_kind (fun ds => by intro z; cases z), fun ds z => by cases z⟩
    · exact ⟨_, .dic (c n5 e65 rfl), small_nice ⟨by decide +kernel, by decide +kernel, by decide +kernel, by decide +kernel⟩, bad_kind (fun ds => by intro z; cases z), fun ds z => by cases z⟩
    · refine ⟨.list [.list (handsD hs)], .dp (.lst (SqL.of (c n6 e6 rfl)) (.cons dw .nil)), ⟨?_, ?_, ?_, ?_⟩, bad_mem List.mem_cons_self (fun h _ z => by cases z), fun ds z => ?_⟩
      · show ((PyData.list (handsD hs)).showable && true) = true
        rw [nw.s]; rfl
      · show ((PyData.list (handsD hs)).leavesShort 64 && true) = true
        rw [nw.l]; rfl
      · have := (small_all _ (small_hands hh)).2.2.1
        have : (handsD hs).length = hs.length := List.length_map _
        show PyData.weightAll (handsD hs) + 1 + 0 ≤ 4000
        omega
      · have := (small_all _ (small_hands hh)).2.2.2
        show max (PyData.depthAll (handsD hs) + 1) 0 + 1 ≤ 5
        omega
      · injection z with z
        rw [← z]
        show 1 ≤ 1000
        decide
  have s7 := same_new hL (.lst [V.ref p3, V.ref t, V.non, V.str "0110", V.int 7, V.ref dd, V.ref l7])
  have e7 := upd_same (H := H6) (a := L) (o := .lst [V.ref p3, V.ref t, V.non, V.str "0110", V.int 7, V.ref dd, V.ref l7])
  generalize upd H6 L (.lst [V.ref p3, V.ref t, V.non, V.str "0110", V.int 7, V.ref dd, V.ref l7]) = H7 at s7 e7 ⊢
  refine ⟨_, rfl, (by show 1 ≤ sizeLine; decide), fun t0 ht0 => ⟨(by show 6 ≤ sizeLine; decide), fun lo hlo => ?_⟩⟩
  have s8 := same_new ht0 (.tup [V.int 0])
  have s9 := s8.trans (same_new hlo (.lst [V.int 2, V.int (-1), V.bl true, V.non, V.str "0", V.ref t0]))
  have et0 := same_new hlo (.lst [V.int 2, V.int (-1), V.bl true, V.non, V.str "0", V.ref t0]) _ _ (upd_same (H := H7) (a := t0) (o := .tup [V.int 0]))
  have elo := upd_same (H := upd H7 t0 (.tup [V.int 0])) (a := lo) (o := .lst [V.int 2, V.int (-1), V.bl true, V.non, V.str "0", V.ref t0])
  have nLt0 : t0 ≠ L := (ne_of_none e7 ht0).symm
  have nLlo : lo ≠ L := (ne_of_none (s8 _ _ e7) hlo).symm
  obtain ⟨x6, y6, z6, ea6, _⟩ := id w6
  have nLa : L ≠ a := (ne_of_none ea6 hL).symm
  have nt0a : t0 ≠ a := (ne_of_none (s7 _ _ ea6) ht0).symm
  have npL : p ≠ L := ne_of_none hp6 hL
  have HL : H L = none := b6.free w6 hL
  generalize upd (upd H7 t0 (.tup [V.int 0])) lo (.lst [V.int 2, V.int (-1), V.bl true, V.non, V.str "0", V.ref t0]) = H9 at s9 et0 elo ⊢
  refine ⟨lo, rfl, ⟨_, SqL.of elo⟩, for_list (xs := [V.int 2, V.int (-1), V.bl true, V.non, V.str "0", V.ref t0]) (fun i σ Hc => ∃ g xs, σ = [some (.ref a), some (.ref p), some (.int (deep : Int)), some (.int r1), some (.int (hand : Int)), some (.ref L), g] ∧ But a H Hc ∧ WellAt Hc a (n + 2) ∧ Hc p = some (.lst (hl hs)) ∧
      Hc lo = some (.lst [V.int 2, V.int (-1), V.bl true, V.non, V.str "0", V.ref t0]) ∧ Hc t0 = some (.tup [V.int 0]) ∧ Hc L = some (.lst xs) ∧ xs.length = 7 + i ∧ ∀ x ∈ xs, Good K (del L (core a Hc)) deep x)
    ⟨none, _, rfl, (b6.trans (But.same (s7.trans s9))), (w6.same (s7.trans s9)).up (by omega), s9 _ _ (s7 _ _ hp6), elo, et0, s9 _ _ e7, rfl, fun x m => (good7 x m).mono fun b o h => ?_⟩ ?_ ?_ ?_⟩
  · obtain ⟨h1, h2, h3⟩ := core_of h
    exact del_at (ne_of_none h2 hL) (core_at h1 (s9 _ _ (s7 _ _ h2)) h3)
  · rintro i σ Hc _ ⟨g, xs, _, _, _, _, hlo, _⟩
    exact SqL.of hlo
  · rintro i x σ Hc hx ⟨g, xs, rfl, bc, wc, hpc, hloc, ht0c, hLc, hlen, hg⟩
    have hi : i < 6 := (List.getElem?_eq_some_iff.mp hx).1
    refine ⟨_, rfl, .inl ⟨rfl, _, SqL.of hLc⟩, ?_⟩
    refine ⟨_, rfl, _, rfl, r1, rfl, p, _, rfl, SqL.of hpc, fun q1 hq1 => ?_⟩
    obtain ⟨h1, c1, m1, k1⟩ := cut_hl hs none (some r1)
    rw [c1]
    have t1 := same_new hq1 (.lst (hl h1))
    refine ⟨_, rfl, (by show 1 ≤ sizeLine; decide), fun q2 hq2 => ?_⟩
    have t2' := same_new hq2 (.lst [x])
    have t2 := t1.trans t2'
    refine ⟨q1, q2, _, _, rfl, rfl, t2' _ _ upd_same, upd_same, ?_, fun q3 hq3 => ?_⟩
    · have : (hl h1).length = h1.length := List.length_map _
      rw [sizeLine_eq, this]
      show h1.length + 1 ≤ _
      omega
    have t3 := t2.trans (same_new hq3 (.lst (hl h1 ++ [x])))
    have u3 := upd_same (H := upd (upd Hc q1 (.lst (hl h1))) q2 (.lst [x])) (a := q3) (o := .lst (hl h1 ++ [x]))
    generalize upd (upd (upd Hc q1 (.lst (hl h1))) q2 (.lst [x])) q3 (.lst (hl h1 ++ [x])) = Hd at t3 u3 ⊢
    refine ⟨_, rfl, _, rfl, _, _, rfl, rfl, _, rfl, p, _, rfl, SqL.of (t3 _ _ hpc), fun q4 hq4 => ?_⟩
    obtain ⟨h2, c2, m2, k2⟩ := cut_hl hs (some (r1 + 1)) none
    rw [c2]
    have t4' := same_new hq4 (.lst (hl h2))
    have t4 := t3.trans t4'
    have l1' : (hl h1).length = h1.length := List.length_map _
    have l2' : (hl h2).length = h2.length := List.length_map _
    refine ⟨q3, q4, _, _, rfl, rfl, t4' _ _ u3, upd_same, (by rw [sizeLine_eq, List.length_append, l1', l2']; show h1.length + 1 + h2.length ≤ _; omega), fun q5 hq5 => ?_⟩
    have t5 := t4.trans (same_new hq5 (.lst (hl h1 ++ [x] ++ hl h2)))
    have u5 := upd_same (H := upd Hd q4 (.lst (hl h2))) (a := q5) (o := .lst (hl h1 ++ [x] ++ hl h2))
    have HcL5 := t4 _ _ hLc
    have n5L : q5 ≠ L := (ne_of_none HcL5 hq5).symm
    obtain ⟨x8, y8, z8, ea8, _⟩ := id wc
    have n5a : q5 ≠ a := (ne_of_none (t4 _ _ ea8) hq5).symm
    generalize upd (upd Hd q4 (.lst (hl h2))) q5 (.lst (hl h1 ++ [x] ++ hl h2)) = He at t5 u5 ⊢
    refine ⟨L, xs, _, rfl, rfl, t5 _ _ hLc, (by rw [sizeLine_eq]; omega), ?_⟩
    refine ⟨_, _, rfl, (bc.trans (But.same t5)).upd HL, (wc.same t5).upd nLa.symm, by rw [upd_ne npL]; exact t5 _ _ hpc, by rw [upd_ne nLlo]; exact t5 _ _ hloc, by rw [upd_ne nLt0]; exact t5 _ _ ht0c, upd_same, by rw [List.length_append]; show xs.length + 1 = 7 + (i + 1); omega, fun y m => ?_⟩
    have sm : Same (del L (core a Hc)) (del L (core a (upd He L (.lst (xs ++ [V.ref q5]))))) := (del_mono (same_cor t5)).trans del_upd
    rcases List.mem_append.mp m with m | m
    · exact (hg y m).mono sm
    · obtain rfl : y = V.ref q5 := by simpa using m
      have hodd : Odd K (del L (core a (upd He L (.lst (xs ++ [V.ref q5]))))) x := by
        have hx' := List.mem_of_getElem? hx
        simp only [List.mem_cons, List.not_mem_nil, or_false] at hx'
        rcases hx' with rfl | rfl | rfl | rfl | rfl | rfl
        · exact ⟨_, .int 2, ⟨by decide +kernel, by decide +kernel, by decide +kernel, by decide +kernel⟩, fun h hh z => by injection z with z; omega⟩
        · exact ⟨_, .int (-1), ⟨by decide +kernel, by decide +kernel, by decide +kernel, by decide +kernel⟩, fun h hh z => by injection z with z; omega⟩
        · exact ⟨_, .bl true, ⟨by decide +kernel, by decide +kernel, by decide +kernel, by decide +kernel⟩, fun h hh z => by cases z⟩
        · exact ⟨_, .non, ⟨by decide +kernel, by decide +kernel, by decide +kernel, by decide +kernel⟩, fun h hh z => by cases z⟩
        · exact ⟨_, .str "0", ⟨by decide +kernel, by decide +kernel, by decide +kernel, by decide +kernel⟩, fun h hh z => by cases z⟩
        · refine ⟨.tuple [.int 0], .tup (SqT.of (del_at nLt0 (core_at nt0a ?_ rfl))) (.cons (.int 0) .nil), ⟨by decide +kernel, by decide +kernel, by decide +kernel, by decide +kernel⟩, fun h hh z => by cases z⟩
          rw [upd_ne nLt0]
          exact t5 _ _ ht0c
      obtain ⟨od, od1, od2, od3⟩ := hodd
      have memD : ∀ dv ∈ handsD h1 ++ [od] ++ handsD h2, Small dv := fun dv m => by
        rcases List.mem_append.mp m with m | m
        · rcases List.mem_append.mp m with m | m
          · exact small_hands (fun h hm => hh h (m1 h hm)) dv m
          · rw [List.mem_singleton.mp m]; exact od2
        · exact small_hands (fun h hm => hh h (m2 h hm)) dv m
      have lenD : (handsD h1 ++ [od] ++ handsD h2).length = h1.length + 1 + h2.length := by
        unfold handsD
        rw [List.length_append, List.length_append, List.length_map, List.length_map]
        rfl
      refine ⟨.list (handsD h1 ++ [od] ++ handsD h2), .dp (.lst (SqL.of (del_at n5L (core_at n5a ?_ rfl))) (dpAll_app (dpAll_app (hands_dp h1) (.cons od1 .nil)) (hands_dp h2))), nice_list memD (by omega), bad_mem (List.mem_append.mpr (.inl (List.mem_append.mpr (.inr List.mem_cons_self)))) od3, fun ds z => ?_⟩
      · rw [upd_ne n5L]
        exact u5
      · injection z with z
        rw [← z]
        omega
  · rintro σ Hc ⟨g, xs, rfl, bc, wc, hpc, hloc, ht0c, hLc, hlen, hg⟩
    have hlen : xs.length = 13 := hlen
    refine ⟨_, rfl, _, rfl, a, L, n + 2, xs, rfl, wc, by omega, hLc, nLa.symm, by omega, by omega, fun i v H' hv bv wv => ?_⟩
    refine q v H' (bc.trans bv) (wv.up (by omega)) (((hg v (List.mem_of_getElem? hv)).mono (del_same _ _)).mono bv.cor)
end
end TA

set_option Elab.async false
set_option maxRecDepth 100000
set_option maxHeartbeats 4000000
namespace TA
open PySem L2 PyProof.Rows LamX
set_option linter.unusedVariables false
abbrev nRight : List Str := ["_law_well_here", "_law_turns", "_law_sound", "_law_inputs", "_law_weaving_here", "_law_deep", "_law_due", "_law_kept", "_law_turn", "_law_odd"]
theorem scRight : FnScope nRight ["_law_well_here"] (defScope sRight) := ⟨rfl, rfl, rfl, by decide +kernel, rfl, by decide +kernel, by decide +kernel⟩
def lamQ : Str := (envOfC "_law_right" (defScope sRight) 0 0 .none).qual ++ "<lambda>"
def spRight (P : Addr) : Sp := fun vs H Q _ => ∃ a : Addr, vs = [.ref a] ∧ WellAt H a 0 ∧ Tabs [(P, lamQ)] H ∧ ∀ H', Cor a H H' → Tabs [(P, lamQ)] H' → Q (.bl true) H'
abbrev KnB (K : PySem.W.Frag) (fd : FuncData) : Prop := KBn K fd ["inputs", "weaving", "rounds"] 2 ["rounds"] (fun us ws => us ++ ws) (fun vs zs => vs ++ zs)
theorem kn_binds {K : PySem.W.Frag} {f : Addr} {fd : FuncData} (F : Fun K "known" "known" sKnown f fd) : KnB K fd := by
  obtain ⟨oc, od, kV, doc, pm, an, cdv, ct, osl, rfl, lk, hcd⟩ := F.ex
  refine ⟨fun s us ws _ h1 h2 => ?_, fun r q => r.append q⟩
  match us, ws, h1, h2 with
  | [_, _], [_], _, _ => exact .of_eq rfl
structure KDef (P : Program) (w : World) (K : PySem.W.Frag) (mg : Str → Option Value) (base : Heap) (cR cI cW : Addr) (f : Addr) (fd : FuncData) : Prop where
  G : FnOk P w K mg base (L2.CX P w) 5 f fd ["inputs", "weaving", "rounds"] (spKnownX K cR cI cW)
  b : KnB K fd
  k : PySem.W.keepIn K (.ref f) = true
  m : mg "known" = some (.ref f)
structure VDef (P : Program) (w : World) (K : PySem.W.Frag) (mg : Str → Option Value) (base : Heap) (cR : Addr) (f : Addr) (fd : FuncData) : Prop where
  G : FnOk P w K mg base (L2.CX P w) 3 f fd ["rounds"] (spWeavX K cR)
  b : Binds K fd ["rounds"] []
  k : PySem.W.keepIn K (.ref f) = true
  m : mg "weavings" = some (.ref f)
/-- _law_said, as it is called with a lambda -/
structure SDef (K : PySem.W.Frag) (mg : Str → Option Value) (g : Addr) : Prop where
  m : mg "_law_said" = some (.ref g)
  k : PySem.W.keepIn K (.ref g) = true
  ex : ∃ (oc : Value) (od : Option Addr) (kV doc pm : Value) (an : Option Addr) (cdv ct : Value) (osl : Array (Option Value)), K.lookup g = some ⟨oc, od, .func (PySem.W.fnOf "_law_said" "_law_said" (defArgs sSaid) (defBody sSaid) (defScope sSaid) .none kV doc pm an cdv ct), osl⟩ ∧ PySem.W.codeIn K cdv "_law_said" = true
section
variable {X : Cx} {cA cR cI cW cN c PT : Addr} {g : Addr}
theorem said_binds {K : PySem.W.Frag} (kV doc pm : Value) (an : Option Addr) (cdv ct : Value) : L2.Binds K (PySem.W.fnOf "_law_said" "_law_said" (defArgs sSaid) (defBody sSaid) (defScope sSaid) .none kV doc pm an cdv ct) ["_law_ask"] [] :=
  .all fun us hl => match us, hl with | [_], _ => rfl
/-- _law_said(lambda: body) in _law_right -/
theorem pe_said {body : Expr} {params : Arguments} {scope : Scope} {t : XK → TE} {p lpos pos : Pos} {k : Nat} (S : SDef X.K X.mg g) (T : SaidT X.mg cA cR cI cW cN) (hg : Gl X "_law_said") (TB : TabB X.base X.mg c PT) (hcode : X.env.code = .ref c) (hq : X.env.qual ++ "<lambda>" = lamQ) (hr : Room (k + 2) X.A)
    (L : LamS X.env.scope scope) (hdef : defaultsOf params X.env = ([], [])) (hbind : ∀ (q : Str) (cl : List (Str × Addr)) (pm cv ctv : Value), bindArgs (PySem.W.kla_fn "<lambda>" q params body scope cl pm cv ctv) ⟨[], []⟩ = pure [])
    (hbody : ∀ (A : Around) (outer : List Env) (s : Shared) (H : Hp) (E : XK) (f c' : Addr), Room k (A.deeper (lamEnv X scope s.heap.objs.size f c')) → PE (lamCx X A outer s H E scope f c') body (t E)) :
    PE X (.Call (.Name "_law_said" p) [.Lambda params body scope lpos] [] pos) (tLam [(PT, lamQ)] (TTsaid X.K cA cR cI cW cN) t) := by
  obtain ⟨oc, od, kV, doc, pm, an, cdv, ct, osl, lk, hcd⟩ := S.ex
  exact pe_lamcall (Ng := nSaid) hg S.m S.k lk hcd (said_binds kV doc pm an cdv ct) scSaid rfl (.inl rfl) (said_gives (k := k + 1) hr T) TB hcode (by rw [hq]; exact List.mem_cons_self) (fun q m _ => by rw [List.mem_singleton.mp m, hq]) hr L hdef hbind hbody
end
end TA

set_option Elab.async false
set_option maxRecDepth 100000
set_option maxHeartbeats 4000000
namespace TA
open PySem L2 PyProof.Rows LamX
set_option linter.unusedVariables false
/-- which word is due -/
def DueW (di dw dd : PyData) (u : Str) : Prop := (within dd 0 5 = false ∧ u = "rounds") ∨ (within dd 0 5 = true ∧ ¬ IOk di ∧ u = "inputs") ∨
  ∃ d : Nat, dd = .int (d : Int) ∧ d ≤ 5 ∧ IOk di ∧ ((¬ WOk d dw ∧ u = "weaving") ∨ (WOk d dw ∧ u = "told"))
theorem known_says {K : PySem.W.Frag} {cA cR cI cW cN : Addr} {H : Hp} {iv wv dv : V} {di dw dd : PyData} {u : Str} {Q : VK} (ki : Kd K H iv di) (kw : Kd K H wv dw) (kd : Kd K H dv dd) (zi : ∀ ds, di = .tuple ds → ds.length ≤ 1000) (zw : ∀ ds, dw = .list ds → ds.length ≤ 1000) (due : DueW di dw dd u)
    (q0 : SaidC K cA cR cI cW cN cR 0) (q1 : SaidC K cA cR cI cW cN cI 1) (q2 : SaidC K cA cR cI cW cN cW 2) (q : ∀ H', Same H H' → Q (.str u) H') :
    spKnownX K cR cI cW [iv, wv, dv] H (fun _ H' => Q (.str "told") H') (fun cls d H' => ∃ (D : Addr) (n : Nat), n < 3 ∧ cls = .ref D ∧ d = none ∧ SaidC K cA cR cI cW cN D n ∧ ∀ H'', Same H' H'' → Q (.str (wordOf n)) H'') := by
  have inD : ∀ d : Nat, d ≤ 5 → within (.int (d : Int)) 0 5 = true := fun d h => decide_eq_true (by omega)
  refine ⟨iv, wv, dv, di, dw, dd, rfl, ki, kw, kd, zi, zw, fun h H' s => ⟨cR, 0, by decide, rfl, rfl, q0, fun H'' s2 => ?_⟩, fun h1 h2 H' s => ⟨cI, 1, by decide, rfl, rfl, q1, fun H'' s2 => ?_⟩, fun d e hd h1 h2 H' s => ⟨cW, 2, by decide, rfl, rfl, q2, fun H'' s2 => ?_⟩, fun d e hd h1 h2 o H' s => ?_⟩
  · have eu : u = wordOf 0 := by
      rcases due with ⟨_, e⟩ | ⟨e, _⟩ | ⟨d, e, hd, _⟩
      · exact e
      · rw [h] at e; cases e
      · subst e; rw [inD d hd] at h; cases h
    rw [← eu]
    exact q _ (s.trans s2)
  · have eu : u = wordOf 1 := by
      rcases due with ⟨e, _⟩ | ⟨_, _, e⟩ | ⟨d, _, _, e, _⟩
      · rw [h1] at e; cases e
      · exact e
      · exact absurd e h2
    rw [← eu]
    exact q _ (s.trans s2)
  · subst e
    have eu : u = wordOf 2 := by
      rcases due with ⟨e, _⟩ | ⟨_, e, _⟩ | ⟨d2, e, _, _, ⟨_, e2⟩ | ⟨e2, _⟩⟩
      · rw [inD d hd] at e; cases e
      · exact absurd h1 e
      · exact e2
      · injection e with e
        obtain rfl : d = d2 := by omega
        exact absurd e2 h2
    rw [← eu]
    exact q _ (s.trans s2)
  · subst e
    have eu : u = "told" := by
      rcases due with ⟨e, _⟩ | ⟨_, e, _⟩ | ⟨d2, e, _, _, ⟨e2, _⟩ | ⟨_, e2⟩⟩
      · rw [inD d hd] at e; cases e
      · exact absurd h1 e
      · injection e with e
        obtain rfl : d = d2 := by omega
        exact absurd h2 e2
      · exact e2
    rw [← eu]
    exact q _ s
/-- what is asked, and what is due -/
structure Sel (K : PySem.W.Frag) (G : Hp) (iv wv dv : V) (di dw dd : PyData) (u : Str) : Prop where
  ki : Dp K G iv di
  kw : Kd K G wv dw
  kd : Kd K G dv dd
  fi : flatD di = true
  ni : ∀ p, iv = .ref p → (∃ ds, di = .list ds) → p ≠ sysModules
  mi : Nice di
  mw : Nice dw
  zi : ∀ ds, di = .tuple ds → ds.length ≤ 1000
  zw : ∀ ds, dw = .list ds → ds.length ≤ 1000
  due : DueW di dw dd u
theorem Sel.mono {K : PySem.W.Frag} {G G' : Hp} {iv wv dv : V} {di dw dd : PyData} {u : Str} (S : Sel K G iv wv dv di dw dd u) (s : Same G G') : Sel K G' iv wv dv di dw dd u :=
  { S with ki := dp_mono s _ _ S.ki, kw := kd_mono s S.kw, kd := kd_mono s S.kd }
theorem Sel.word {K : PySem.W.Frag} {G : Hp} {iv wv dv : V} {di dw dd : PyData} {u : Str} (S : Sel K G iv wv dv di dw dd u) {H : Hp} {cA cR cI cW cN : Addr} {Q : VK} (s : Same G H) (q0 : SaidC K cA cR cI cW cN cR 0) (q1 : SaidC K cA cR cI cW cN cI 1) (q2 : SaidC K cA cR cI cW cN cW 2) (q : ∀ H', Same H H' → Q (.str u) H') :
    spKnownX K cR cI cW [iv, wv, dv] H (fun _ H' => Q (.str "told") H') (fun cls d H' => ∃ (D : Addr) (n : Nat), n < 3 ∧ cls = .ref D ∧ d = none ∧ SaidC K cA cR cI cW cN D n ∧ ∀ H'', Same H' H'' → Q (.str (wordOf n)) H'') :=
  known_says (.dp (dp_mono s _ _ S.ki)) (kd_mono s S.kw) (kd_mono s S.kd) S.zi S.zw S.due q0 q1 q2 q
theorem Sel.pair {K : PySem.W.Frag} {G : Hp} {iv wv dv : V} {di dw dd : PyData} {u : Str} (S : Sel K G iv wv dv di dw dd u) {H : Hp} {l : Addr} {Q : VK} (s : Same G H) (nl : l ≠ sysModules) (hl : H l = some (.lst [iv, wv])) (q : Q (.str (PyData.list [di, dw]).shown) H) : rPair K [.ref l] H Q := by
  obtain ⟨n1, n2, n3⟩ := nice_pair S.mi S.mw
  exact ⟨l, iv, wv, di, dw, rfl, nl, SqL.of hl, dp_mono s _ _ S.ki, kd_mono s S.kw, S.fi, S.ni, n1, n2, n3, q⟩
theorem Sel.pairN {K : PySem.W.Frag} {G : Hp} {iv wv dv : V} {di dw dd : PyData} {u : Str} (S : Sel K G iv wv dv di dw dd u) {H : Hp} {l : Addr} {Q : VK} {σ : L2.St} (s : Same G H) (nl : l ≠ sysModules) (hl : H l = some (.lst [iv, wv])) (q : Q (.str (PyData.list [di, dw]).shown) H) :
    tNil σ H (fun xs H2 => (fun vs H1 => rPair K vs H1 Q) (V.ref l :: xs) H2) := S.pair s nl hl q
theorem Sel.said {K : PySem.W.Frag} {G : Hp} {iv wv dv : V} {di dw dd : PyData} {u : Str} (S : Sel K G iv wv dv di dw dd u) {H : Hp} {cA cR cI cW cN : Addr} {Q : VK} {σ : L2.St} (s : Same G H) (q0 : SaidC K cA cR cI cW cN cR 0) (q1 : SaidC K cA cR cI cW cN cI 1) (q2 : SaidC K cA cR cI cW cN cW 2)
    (e3 : σ[3]? = some (some iv)) (e4 : σ[4]? = some (some wv)) (e5 : σ[5]? = some (some dv)) (q : ∀ H', Same H H' → Q (.str u) H') :
    TTsaid K cA cR cI cW cN (fun E H' Q' => (fun E => tCallN 2 [("rounds" : Str)].length (spKnownX K cR cI cW) (fun vs zs => vs ++ zs) E (tCons (tVar 3) (tCons (tVar 4) tNil)) (tCons (tVar 5) tNil)) E σ H' Q') H Q :=
  ⟨_, e3, _, e4, _, e5, rfl, rfl, S.word (Q := Q) s q0 q1 q2 q⟩
theorem weav_said {K : PySem.W.Frag} {G H : Hp} {v : V} {d : PyData} {cA cR cI cW cN : Addr} {Q : VK} {σ : L2.St} (h : Kd K G v d) (z : within d 0 3 = false) (s : Same G H) (q0 : SaidC K cA cR cI cW cN cR 0) (e9 : σ[9]? = some (some v)) (q : ∀ H', Same H H' → Q (.str "rounds") H') :
    TTsaid K cA cR cI cW cN (fun E H' Q' => (fun E => tCall (spWeavX K cR) [] E (tCons (tVar 9) tNil)) E σ H' Q') H Q :=
  ⟨_, e9, v, d, rfl, kd_mono s h, z, fun H' s2 => ⟨cR, 0, by decide, rfl, rfl, q0, fun H'' s3 => q _ (s2.trans s3)⟩⟩
theorem last_said {K : PySem.W.Frag} {G H : Hp} {so : Addr} {iv wv dv : V} {di dw dd : PyData} {u : Str} (S : Sel K G iv wv dv di dw dd u) {cA cR cI cW cN : Addr} {Q : VK} {σ : L2.St} (s : Same G H) (q0 : SaidC K cA cR cI cW cN cR 0) (q1 : SaidC K cA cR cI cW cN cI 1) (q2 : SaidC K cA cR cI cW cN cW 2)
    (e2 : σ[2]? = some (some (.ref so))) (e1 : σ[1]? = some (some dv)) (hs : H so = some (.lst [iv, wv, dv])) (q : ∀ H', Same H H' → Q (.str u) H') :
    TTsaid K cA cR cI cW cN (fun E H' Q' => (fun E => tCallN 2 [("rounds" : Str)].length (spKnownX K cR cI cW) (fun vs zs => vs ++ zs) E (tCons (tOp (rIxL K) (tVar 2) (tC (.int 0))) (tCons (tOp (rIxL K) (tVar 2) (tC (.int 1))) tNil)) (tCons (tVar 1) tNil)) E σ H' Q') H Q :=
  ⟨_, e2, so, _, _, _, rfl, rfl, SqL.of hs, rfl, _, e2, so, _, _, _, rfl, rfl, SqL.of hs, rfl, _, e1, rfl, rfl, S.word (Q := Q) s q0 q1 q2 q⟩
theorem Cor.out {a : Addr} {H H' : Hp} (c : Cor a H H') : Same (core a H) H' := fun b o h => core_same a _ _ _ (c b o h)
theorem tabs_but {T : List (Addr × Str)} {a : Addr} {n : Int} {H H' : Hp} (t : Tabs T H) (w : WellAt H a n) (b : But a H H') : Tabs T H' := fun p hp => by
  obtain ⟨x, y, z, e, _⟩ := w
  obtain ⟨ps, h1, h2, h3⟩ := t p hp
  refine ⟨ps, b _ _ (fun c => ?_) h1, h2, fun pos cv hc => ?_⟩
  · rw [c, e] at h1; cases h1
  · obtain ⟨c, e1, e2⟩ := h3 pos cv hc
    refine ⟨c, e1, b _ _ (fun z => ?_) e2⟩
    rw [z, e] at e2
    unfold CodeO at e2
    cases e2
theorem join2 {b : Bool} {X : Prop} {R : L2.St → Hp → Prop} {σ : L2.St} {H : Hp} (Iv : L2.St → Hp → Prop) (h0 : Iv σ H) (k : ∀ σ Hc, Iv σ Hc → R σ Hc) (h1 : b = true → (∀ σ Hc, Iv σ Hc → R σ Hc) → X) : if b = true then X else R σ H := by
  cases b with
  | false => exact iteF (k σ H h0)
  | true => exact iteT (h1 rfl k)
/-- behind each step -/
structure St (K : PySem.W.Frag) (PT a : Addr) (H Hc : Hp) (n : Int) (so t w0 : Addr) (turns : Nat) (x y : Int) (hs : List Nat) : Prop where
  c : Cor a H Hc
  w : WellAt Hc a n
  T : Tabs [(PT, lamQ)] Hc
  so : core a Hc so = some (.lst [.ref t, .ref w0, .int (turns : Int)])
  t : core a Hc t = some (.tup [.int x, .int y])
  w0 : core a Hc w0 = some (.lst (hl hs))
theorem St.but {K : PySem.W.Frag} {PT a : Addr} {H Hc H' : Hp} {n m : Int} {so t w0 : Addr} {turns : Nat} {x y : Int} {hs : List Nat} (S : St K PT a H Hc n so t w0 turns x y hs) (b : But a Hc H') (w : WellAt H' a m) : St K PT a H H' m so t w0 turns x y hs :=
  ⟨S.c.trans b.cor, w, tabs_but S.T S.w b, b.cor _ _ S.so, b.cor _ _ S.t, b.cor _ _ S.w0⟩
theorem St.same {K : PySem.W.Frag} {PT a : Addr} {H Hc H' : Hp} {n : Int} {so t w0 : Addr} {turns : Nat} {x y : Int} {hs : List Nat} (S : St K PT a H Hc n so t w0 turns x y hs) (s : Same Hc H') : St K PT a H H' n so t w0 turns x y hs :=
  S.but (But.same s) (S.w.same s)
theorem St.ext {K : PySem.W.Frag} {PT a : Addr} {H Hc H' : Hp} {n : Int} {so t w0 : Addr} {turns : Nat} {x y : Int} {hs : List Nat} (S : St K PT a H Hc n so t w0 turns x y hs) (e : ExtN Hc H') (T : Tabs [(PT, lamQ)] H') : St K PT a H H' n so t w0 turns x y hs := by
  obtain ⟨x1, y1, z1, ea, r⟩ := S.w
  exact ⟨S.c.trans (ext_cor e), ⟨x1, y1, z1, e _ _ ea (fun ps z => by cases z), r⟩, T, ext_cor e _ _ S.so, ext_cor e _ _ S.t, ext_cor e _ _ S.w0⟩
/-- what is put for inputs and is none -/
def Inp (K : PySem.W.Frag) (G : Hp) (v : V) : Prop := ∃ d, Dp K G v d ∧ flatD d = true ∧ (∀ p, v = .ref p → (∃ ds, d = .list ds) → p ≠ sysModules) ∧ Nice d ∧ ¬ IOk d ∧ ∀ ds, d = .tuple ds → ds.length ≤ 1000
theorem Inp.mono {K : PySem.W.Frag} {G G' : Hp} {v : V} (i : Inp K G v) (s : Same G G') : Inp K G' v := by
  obtain ⟨d, a, b⟩ := i
  exact ⟨d, dp_mono s _ _ a, b⟩
theorem inp_tup {K : PySem.W.Frag} {G : Hp} {t : Addr} {vs : List V} {ds : List PyData} (h : G t = some (.tup vs)) (a : DpAll K G vs ds) (s : ∀ d ∈ ds, Small d) (n : ds.length ≤ 90) (b : ds.all bare = true) (no : ¬ IOk (.tuple ds)) : Inp K G (.ref t) :=
  ⟨.tuple ds, .tup (SqT.of h) a, b, (fun p _ e => by obtain ⟨ds, e⟩ := e; cases e), nice_tuple s n, no, fun ds e => by injection e with e; rw [← e]; omega⟩
theorem inp_bare {K : PySem.W.Frag} {G : Hp} {v : V} {d : PyData} (h : Dp K G v d) (s : Small d) (b : bare d = true) : Inp K G v := by
  refine ⟨d, h, ?_, ?_, small_nice s, ?_, ?_⟩
  · cases d <;> first | rfl | cases b
  · rintro p _ ⟨ds, rfl⟩
    cases b
  · rintro ⟨x, y, rfl, _⟩
    cases b
  · rintro ds rfl
    cases b
theorem sm1 : Small (.int 1) := ⟨by decide +kernel, by decide +kernel, by decide +kernel, by decide +kernel⟩
theorem sm2 : Small (.int 2) := ⟨by decide +kernel, by decide +kernel, by decide +kernel, by decide +kernel⟩
theorem sm3 : Small (.int 3) := ⟨by decide +kernel, by decide +kernel, by decide +kernel, by decide +kernel⟩
theorem sm5 : Small (.int 5) := ⟨by decide +kernel, by decide +kernel, by decide +kernel, by decide +kernel⟩
theorem smm : Small (.int (-1)) := ⟨by decide +kernel, by decide +kernel, by decide +kernel, by decide +kernel⟩
theorem smt : Small (.bool true) := ⟨by decide +kernel, by decide +kernel, by decide +kernel, by decide +kernel⟩
theorem smn : Small .none := ⟨by decide +kernel, by decide +kernel, by decide +kernel, by decide +kernel⟩
theorem sms : Small (.str "1") := ⟨by decide +kernel, by decide +kernel, by decide +kernel, by decide +kernel⟩
theorem sm01 : Small (.str "01") := ⟨by decide +kernel, by decide +kernel, by decide +kernel, by decide +kernel⟩
theorem all1 {d : PyData} (a : Small d) : ∀ x ∈ [d], Small x := fun x m => by rw [List.mem_singleton.mp m]; exact a
theorem all2 {d e : PyData} (a : Small d) (b : Small e) : ∀ x ∈ [d, e], Small x := fun x m => by
  rcases List.mem_cons.mp m with rfl | m
  · exact a
  · rw [List.mem_singleton.mp m]; exact b
theorem all3 {d e f : PyData} (a : Small d) (b : Small e) (c : Small f) : ∀ x ∈ [d, e, f], Small x := fun x m => by
  rcases List.mem_cons.mp m with rfl | m
  · exact a
  · exact all2 b c x m
end TA

set_option Elab.async false
set_option maxRecDepth 100000
set_option maxHeartbeats 4000000
set_option pp.maxSteps 900
set_option pp.deepTerms false
namespace TA
open PySem L2 PyProof.Rows LamX
set_option linter.unusedVariables false
theorem quiet_at {P : Program} {w : World} {K : PySem.W.Frag} {mg : Str → Option Value} {base : Heap} {x : Str} {st : Stmt} {f : Addr} {N ps : List Str} {k : Nat} {sp : Sp} {oc kV doc pm cdv ct : Value} {od an : Option Addr} {osl : Array (Option Value)}
    (lk : K.lookup f = some ⟨oc, od, .func (PySem.W.fnOf x x (defArgs st) (defBody st) (defScope st) .none kV doc pm an cdv ct), osl⟩) (hcd : PySem.W.codeIn K cdv x = true) (S : FnScope N ps (defScope st)) (len : ∀ vs H Q E, sp vs H Q E → vs.length = ps.length)
    (body : ∀ (A : Around) (outer : List Env) (s : Shared) (H : Hp) (vs : List V) (Q : VK) (E : XK), A.guards = some [] → Room k (A.deeper (envOfC x (defScope st) s.heap.objs.size f cdv)) → sp vs H Q E →
      ∃ t, PSs (cxOf CX0 P w K mg base N x (defScope st) f cdv A outer s H E).nox (defBody st) t ∧ t { nx := fun _ H' => Q .non H', rt := Q } (L2.start N vs) H) : Quiet P w K mg base (k + 1) f (PySem.W.fnOf x x (defArgs st) (defBody st) (defScope st) .none kV doc pm an cdv ct) ps sp := by
  refine ⟨len, fun A outer s H args us vs Q E hg hr e0 hb hv hs => ?_⟩
  refine run_ofS (N := N) (ps := ps) lk hcd S hr e0 hb hv (len _ _ _ _ hs) fun hr2 => ?_
  obtain ⟨t, p, q⟩ := body A outer s H vs Q E hg hr2 hs
  exact ⟨t, p.nox, q⟩
section
variable {P : Program} {w : World} {K : PySem.W.Frag} {mg : Str → Option Value} {base : Heap}
theorem ok_right {f g1 g2 g3 g4 g5 g6 gS cA cR cI cW cN c PT : Addr} {d1 d2 d3 d4 d5 d6 : FuncData} {oc kV doc pm ct : Value} {od an : Option Addr} {osl : Array (Option Value)}
    (lk : K.lookup f = some ⟨oc, od, .func (PySem.W.fnOf "_law_right" "_law_right" (defArgs sRight) (defBody sRight) (defScope sRight) .none kV doc pm an (.ref c) ct), osl⟩) (hcd : PySem.W.codeIn K (.ref c) "_law_right" = true) (T : Txt K mg) (Tr : mg "repr" = none)
    (D1 : Def P w K mg base "_law_draw" ["_law_well_here", "_law_many"] 1 spDraw2 g1 d1) (D2 : Def P w K mg base "_law_one" ["_law_well_here", "_law_some"] 2 spOne2 g2 d2)
    (D3 : Def P w K mg base "_law_weaving" ["_law_well_here", "_law_deep", "_law_stops"] 3 spLW g3 d3) (D4 : Def P w K mg base "_law_spoilt" ["_law_well_here", "_law_weaving_here", "_law_deep"] 3 (spSpoilt K) g4 d4)
    (D5 : KDef P w K mg base cR cI cW g5 d5) (D6 : VDef P w K mg base cR g6 d6) (S : SDef K mg gS) (TS : SaidT mg cA cR cI cW cN) (TB : TabB base mg c PT)
    (q0 : SaidC K cA cR cI cW cN cR 0) (q1 : SaidC K cA cR cI cW cN cI 1) (q2 : SaidC K cA cR cI cW cN cW 2) :
    Quiet P w K mg base 8 f (PySem.W.fnOf "_law_right" "_law_right" (defArgs sRight) (defBody sRight) (defScope sRight) .none kV doc pm an (.ref c) ct) ["_law_well_here"] (spRight PT) := by
  refine quiet_at lk hcd scRight (fun vs H Q E h => ?_) (fun A outer s H vs Q E hgu hr h => ?_)
  · obtain ⟨a, rfl, _⟩ := h
    rfl
  obtain ⟨a, rfl, hW, hT, q⟩ := h
  have nd := scRight.nd
  refine ⟨_, pss_cons (ps_set (i := 1) nd rfl (Or.inr rfl) (pe_call D1.G (hr.mono (by decide)) rfl D1.m D1.k D1.b .nil pass0 (pa_cons (pv 0) (pa_cons pe_int pa_nil))))
    (pss_cons (ps_set (i := 2) nd rfl (Or.inr rfl) (pe_lst (pa_cons (pe_tup (pa_cons (pe_call D1.G (hr.mono (by decide)) rfl D1.m D1.k D1.b .nil pass0 (pa_cons (pv 0) (pa_cons pe_int pa_nil))) (pa_cons (pe_call D1.G (hr.mono (by decide)) rfl D1.m D1.k D1.b .nil pass0 (pa_cons (pv 0) (pa_cons pe_int pa_nil))) pa_nil)))
      (pa_cons (pe_call D3.G (hr.mono (by decide)) rfl D3.m D3.k D3.b .nil pass0 (pa_cons (pv 0) (pa_cons (pv 1) (pa_cons pe_bl pa_nil)))) (pa_cons (pv 1) pa_nil)))))
    (pss_cons (ps_asg (pv 2) (pg_lst rfl (pgs_cons (pg_name (i := 3) nd rfl (Or.inr rfl)) (pgs_cons (pg_name (i := 4) nd rfl (Or.inr rfl)) (pgs_cons (pg_name (i := 5) nd rfl (Or.inr rfl)) pgs_nil)))))
    (pss_cons (ps_set (i := 6) nd rfl (Or.inl rfl) pe_str)
    (pss_cons (ps_if (pt_cmpR op_eq (pe_call D1.G (hr.mono (by decide)) rfl D1.m D1.k D1.b .nil pass0 (pa_cons (pv 0) (pa_cons pe_int pa_nil))) pe_int (nomark _))
      (pss_cons (ps_set (i := 4) nd rfl (Or.inr rfl) (pe_call D4.G (hr.mono (by decide)) rfl D4.m D4.k D4.b .nil pass0 (pa_cons (pv 0) (pa_cons (pv 4) (pa_cons (pv 1) pa_nil))))) (pss_one (ps_set (i := 6) nd rfl (Or.inl rfl) pe_str))) pss_nil)
    (pss_cons (ps_if (pt_cmpR op_eq (pe_call D1.G (hr.mono (by decide)) rfl D1.m D1.k D1.b .nil pass0 (pa_cons (pv 0) (pa_cons pe_int pa_nil))) pe_int (nomark _))
      (pss_cons (ps_set (i := 3) nd rfl (Or.inr rfl) (pe_call D2.G (hr.mono (by decide)) rfl D2.m D2.k D2.b .nil pass0 (pa_cons (pv 0) (pa_cons (pe_lst
        (pa_cons (pe_tup (pa_cons pe_int pa_nil)) (pa_cons (pe_tup (pa_cons pe_int (pa_cons pe_int (pa_cons pe_int pa_nil)))) (pa_cons (pe_lstF (pa_cons pe_int (pa_cons pe_int pa_nil))) (pa_cons (pe_tup (pa_cons pe_int (pa_cons (pe_un un_neg pe_int) pa_nil)))
        (pa_cons (pe_tup (pa_cons pe_bl (pa_cons pe_int pa_nil))) (pa_cons (pe_tup (pa_cons pe_int (pa_cons pe_non pa_nil))) (pa_cons pe_non (pa_cons pe_int (pa_cons pe_str (pa_cons (pe_tup (pa_cons pe_int (pa_cons pe_str pa_nil))) (pa_cons (pe_tup pa_nil) pa_nil)))))))))))) pa_nil))))
        (pss_one (ps_set (i := 6) nd rfl (Or.inl rfl) pe_str))) pss_nil)
    (pss_cons (ps_if (pt_cmpR op_eq (pe_call D1.G (hr.mono (by decide)) rfl D1.m D1.k D1.b .nil pass0 (pa_cons (pv 0) (pa_cons pe_int pa_nil))) pe_int (nomark _))
      (pss_cons (ps_set (i := 5) nd rfl (Or.inr rfl) (pe_call D2.G (hr.mono (by decide)) rfl D2.m D2.k D2.b .nil pass0 (pa_cons (pv 0) (pa_cons (pe_lst
        (pa_cons (pe_un un_neg pe_int) (pa_cons pe_int (pa_cons pe_bl (pa_cons pe_non (pa_cons pe_str (pa_cons (pe_tup (pa_cons pe_int pa_nil)) (pa_cons (pe_op op_pow pe_int pe_int) pa_nil)))))))) pa_nil))))
        (pss_one (ps_set (i := 6) nd rfl (Or.inl rfl) pe_str))) pss_nil)
    (pss_cons (ps_set (i := 7) nd rfl (Or.inl rfl) (pe_callB (call_pair hgu hr.units) (by rfl) Tr bootS_repr (pa_cons (pe_lstF (pa_cons (pv 3) (pa_cons (pv 4) pa_nil))) pa_nil)))
    (pss_cons (ps_for PassesOwn.never rfl (pi_range1 rfl T.range (pa_cons pe_int pa_nil)) (pg_name (i := 8) nd rfl (Or.inl rfl))
      (pss_one (ps_if (PW.pt (pw_or (pt_cmpR op_ne (pe_said (k := 5) (t := fun E => tCallN 2 [("rounds" : Str)].length (spKnownX K cR cI cW) (fun vs zs => vs ++ zs) E (tCons (tVar 3) (tCons (tVar 4) tNil)) (tCons (tVar 5) tNil)) S TS rfl TB rfl rfl hr (lamS_by (by rfl)) rfl (fun _ _ _ _ _ => rfl)
            (fun A outer s H E f c' hr2 => (by exact pe_callN D5.G hr2 rfl D5.m D5.k D5.b (passes_call (takes_of rfl rfl rfl rfl) (fun _ _ _ _ h => h)) (pa_cons (pv 3) (pa_cons (pv 4) pa_nil)) (pk_cons (pv 5) pk_nil)))) (pv 6) (nomark _))
          (pw_or1 (pt_cmpR op_ne (pe_callB (call_pair hgu hr.units) (by rfl) Tr bootS_repr (pa_cons (pe_lstF (pa_cons (pv 3) (pa_cons (pv 4) pa_nil))) pa_nil)) (pv 7) (nomark _))))) (pss_one (ps_ret pe_bl)) pss_nil)))
    (pss_cons (ps_set (i := 9) nd rfl (Or.inr rfl) (pe_call D2.G (hr.mono (by decide)) rfl D2.m D2.k D2.b .nil pass0 (pa_cons (pv 0) (pa_cons (pe_lst
        (pa_cons (pe_un un_neg pe_int) (pa_cons pe_int (pa_cons pe_bl (pa_cons pe_bl (pa_cons pe_non (pa_cons pe_str (pa_cons (pe_lst (pa_cons pe_int pa_nil)) (pa_cons (pe_op op_pow pe_int pe_int) pa_nil))))))))) pa_nil))))
    (pss_cons (ps_if (pt_cmpR op_ne (pe_said (k := 5) (t := fun E => tCall (spWeavX K cR) [] E (tCons (tVar 9) tNil)) S TS rfl TB rfl rfl hr (lamS_by (by rfl)) rfl (fun _ _ _ _ _ => rfl)
            (fun A outer s H E f c' hr2 => (by exact pe_call D6.G (hr2.mono (by decide)) rfl D6.m D6.k D6.b .nil (passes_call (takes_of rfl rfl rfl rfl) (fun _ _ _ _ h => h)) (pa_cons (pv 9) pa_nil)))) pe_str (nomark _)) (pss_one (ps_ret pe_bl)) pss_nil)
    (pss_one (ps_ret (pe_cmpR op_eq (pe_said (k := 5) (t := fun E => tCallN 2 [("rounds" : Str)].length (spKnownX K cR cI cW) (fun vs zs => vs ++ zs) E (tCons (tOp (rIxL K) (tVar 2) (tC (.int 0))) (tCons (tOp (rIxL K) (tVar 2) (tC (.int 1))) tNil)) (tCons (tVar 1) tNil)) S TS rfl TB rfl rfl hr (lamS_by (by rfl)) rfl (fun _ _ _ _ _ => rfl)
            (fun A outer s H E f c' hr2 => (by exact pe_callN D5.G hr2 rfl D5.m D5.k D5.b (passes_call (takes_of rfl rfl rfl rfl) (fun _ _ _ _ h => h)) (pa_cons (pe_ix ix_list (pv 2) pe_int (fun _ _ => rfl)) (pa_cons (pe_ix ix_list (pv 2) pe_int (fun _ _ => rfl)) pa_nil)) (pk_cons (pv 1) pk_nil)))) pe_str (nomark _)))))))))))))), ?_⟩
  refine ⟨_, rfl, a, 0, 6, rfl, hW, by decide, by decide, by decide, fun r H1 r0 r1 b1 w1 => ?_⟩
  obtain ⟨turns, rfl, htu⟩ : ∃ d : Nat, r = (d : Int) ∧ d ≤ 5 := ⟨r.toNat, by omega, by omega⟩
  refine ⟨_, rfl, a, _, 4, rfl, w1, by decide, by decide, by decide, fun x H2 x0 x1 b2 w2 => ?_⟩
  refine ⟨_, rfl, a, _, 4, rfl, w2, by decide, by decide, by decide, fun y H3 y0 y1 b3 w3 => ?_⟩
  refine ⟨(by show 2 ≤ sizeLine; decide), fun t ht => ?_⟩
  have s4 := same_new ht (.tup [V.int x, V.int y])
  have w4 := w3.same s4
  have et4 := upd_same (H := H3) (a := t) (o := .tup [V.int x, V.int y])
  obtain ⟨xa, ya, za, ea3, _⟩ := id w3
  have nta : t ≠ a := (ne_of_none ea3 ht).symm
  have b4 : But a H (upd H3 t (.tup [V.int x, V.int y])) := ((b1.trans b2).trans b3).trans (But.same s4)
  generalize upd H3 t (.tup [V.int x, V.int y]) = H4 at s4 w4 et4 b4 ⊢
  refine ⟨_, rfl, _, rfl, a, _, turns, true, rfl, w4, by decide, htu, fun w0 hs H5 b5 w5 hw0n hw0 hh hc => ?_⟩
  have hlen := len_counts hs hh
  have c0 := hc 0 (by decide)
  have c1 := hc 1 (by decide)
  have et5 := b5 _ _ nta et4
  obtain ⟨xb, yb, zb, ea4, _⟩ := id w4
  have nw0a : w0 ≠ a := (ne_of_none ea4 hw0n).symm
  refine ⟨_, rfl, (by show 3 ≤ sizeLine; decide), fun so hso => ?_⟩
  have s6 := same_new hso (.lst [V.ref t, V.ref w0, V.int (turns : Int)])
  have eso := upd_same (H := H5) (a := so) (o := .lst [V.ref t, V.ref w0, V.int (turns : Int)])
  obtain ⟨xc, yc, zc, ea5, _⟩ := id w5
  have nsoa : so ≠ a := (ne_of_none ea5 hso).symm
  have b6 : But a H (upd H5 so (.lst [V.ref t, V.ref w0, V.int (turns : Int)])) := (b4.trans b5).trans (But.same s6)
  have S0 : St K PT a H (upd H5 so (.lst [V.ref t, V.ref w0, V.int (turns : Int)])) 120 so t w0 turns x y hs :=
    ⟨b6.cor, (w5.same s6).up (by decide), tabs_but hT hW b6, core_at nsoa eso rfl, core_at nta (s6 _ _ et5) rfl, core_at nw0a (s6 _ _ hw0) rfl⟩
  generalize upd H5 so (.lst [V.ref t, V.ref w0, V.int (turns : Int)]) = H6 at eso S0 ⊢
  have okI : IOk (.tuple [.int x, .int y]) := ⟨x, y, rfl, x0, y0⟩
  have okW : WOk turns (.list (handsD hs)) := ⟨hs, rfl, hh, hc⟩
  have smallI : ∀ z : Int, 0 ≤ z → z < 4 → Small (.int z) := fun z h1 h2 => by
    obtain rfl | rfl | rfl | rfl : z = 0 ∨ z = 1 ∨ z = 2 ∨ z = 3 := by omega
    all_goals exact ⟨by decide +kernel, by decide +kernel, by decide +kernel, by decide +kernel⟩
  have lenD : (handsD hs).length = hs.length := List.length_map _
  have E0 : ∀ {Hc : Hp} {n : Int}, St K PT a H Hc n so t w0 turns x y hs → Sel K (core a Hc) (.ref t) (.ref w0) (.int (turns : Int)) (.tuple [.int x, .int y]) (.list (handsD hs)) (.int (turns : Int)) "told" := fun S =>
    ⟨.tup (SqT.of S.t) (.cons (.int x) (.cons (.int y) .nil)), .dp (.lst (SqL.of S.w0) (hands_dp hs)), .dp (.int _), rfl, (fun p _ e => by obtain ⟨ds, e⟩ := e; cases e), nice_tuple (fun d m => by
        simp only [List.mem_cons, List.not_mem_nil, or_false] at m
        rcases m with rfl | rfl
        · exact smallI x x0 x1
        · exact smallI y y0 y1) (by show 2 ≤ 90; decide), nice_list (small_hands hh) (by omega), (fun ds e => by injection e with e; rw [← e]; show 2 ≤ 1000; decide), (fun ds e => by injection e with e; rw [← e]; omega), .inr (.inr ⟨turns, rfl, htu, okI, .inr ⟨okW, rfl⟩⟩)⟩
  refine ⟨_, rfl, so, [.ref t, .ref w0, .int (turns : Int)], rfl, SqL.of eso, rfl, ?_⟩
  refine ⟨_, _, rfl, _, _, rfl, _, _, rfl, rfl, ?_⟩
  refine ⟨_, rfl, a, _, 2, rfl, S0.w, by decide, by decide, by decide, fun r5 H7 _ _ b7 w7 => ⟨rfl, _, rfl, join2 (fun σ Hc => ∃ wv dw u, σ = [some (.ref a), some (.int (turns : Int)), some (.ref so), some (.ref t), some wv, some (.int (turns : Int)), some (.str u), none, none, none] ∧
      St K PT a H Hc 200 so t w0 turns x y hs ∧ Sel K (core a Hc) (.ref t) wv (.int (turns : Int)) (.tuple [.int x, .int y]) dw (.int (turns : Int)) u) ?_ (fun σ Hc hI => ?_) (fun _ k => ?_)⟩⟩
  · exact ⟨_, _, _, rfl, S0.but (m := 200) b7 (w7.up (by decide)), E0 (S0.but (m := 200) b7 (w7.up (by decide)))⟩
  case refine_3 =>
    have S7 := S0.but b7 w7
    refine ⟨_, rfl, _, rfl, _, rfl, a, w0, _, hs, turns, rfl, w7, by decide, (core_of S7.w0).2.1, nw0a.symm, hh, by omega, htu, fun v H8 b8 w8 hg => ?_⟩
    obtain ⟨dw, g1, g2, g3, g4⟩ := hg
    have S8 : St K PT a H H8 200 so t w0 turns x y hs := S7.but b8 (w8.up (by decide))
    have L := E0 S8
    exact k _ _ ⟨v, dw, "weaving", rfl, S8, { L with kw := g1, mw := g2, zw := g4, due := .inr (.inr ⟨turns, rfl, htu, okI, .inl ⟨g3, rfl⟩⟩) }⟩
  obtain ⟨wv, dw, u, rfl, S8, L8⟩ := hI
  refine ⟨_, rfl, a, _, 3, rfl, S8.w, by decide, by decide, by decide, fun r6 H9 _ _ b9 w9 => ⟨rfl, _, rfl, join2 (fun σ Hc => ∃ iv wv di dw u, σ = [some (.ref a), some (.int (turns : Int)), some (.ref so), some iv, some wv, some (.int (turns : Int)), some (.str u), none, none, none] ∧
      St K PT a H Hc 300 so t w0 turns x y hs ∧ Sel K (core a Hc) iv wv (.int (turns : Int)) di dw (.int (turns : Int)) u) ?_ (fun σ Hc hI => ?_) (fun _ k => ?_)⟩⟩
  · exact ⟨_, _, _, _, _, rfl, S8.but (m := 300) b9 (w9.up (by decide)), L8.mono b9.cor⟩
  case refine_3 =>
    have S9 := S8.but b9 w9
    obtain ⟨xd, yd, zd, ed, _⟩ := id S9.w
    refine ⟨_, rfl, (by show 1 ≤ sizeLine; decide), fun t1 h1 => ?_⟩
    have z0 := same_new h1 (.tup [V.int 1])
    have et1 := upd_same (H := H9) (a := t1) (o := (.tup [V.int 1]))
    have nt1 : t1 ≠ a := (ne_of_none ed h1).symm
    have ed := z0 _ _ ed
    have Z0 := z0
    generalize upd H9 t1 (.tup [V.int 1]) = K0 at z0 Z0 ed et1 ⊢
    refine ⟨(by show 3 ≤ sizeLine; decide), fun t2 h2 => ?_⟩
    have z1 := same_new h2 (.tup [V.int 1, V.int 2, V.int 3])
    have et2 := upd_same (H := K0) (a := t2) (o := (.tup [V.int 1, V.int 2, V.int 3]))
    have nt2 : t2 ≠ a := (ne_of_none ed h2).symm
    have et1 := z1 _ _ et1
    have ed := z1 _ _ ed
    have Z1 := Z0.trans z1
    generalize upd K0 t2 (.tup [V.int 1, V.int 2, V.int 3]) = K1 at z1 Z1 ed et1 et2 ⊢
    refine ⟨(by show 2 ≤ sizeLine; decide), fun t3 h3 m3 => ?_⟩
    have z2 := same_new h3 (.lst [V.int 1, V.int 2])
    have et3 := upd_same (H := K1) (a := t3) (o := (.lst [V.int 1, V.int 2]))
    have nt3 : t3 ≠ a := (ne_of_none ed h3).symm
    have et1 := z2 _ _ et1
    have et2 := z2 _ _ et2
    have ed := z2 _ _ ed
    have Z2 := Z1.trans z2
    generalize upd K1 t3 (.lst [V.int 1, V.int 2]) = K2 at z2 Z2 ed et1 et2 et3 ⊢
    refine ⟨_, rfl, (by show 2 ≤ sizeLine; decide), fun t4 h4 => ?_⟩
    have z3 := same_new h4 (.tup [V.int 1, V.int (-1)])
    have et4 := upd_same (H := K2) (a := t4) (o := (.tup [V.int 1, V.int (-1)]))
    have nt4 : t4 ≠ a := (ne_of_none ed h4).symm
    have et1 := z3 _ _ et1
    have et2 := z3 _ _ et2
    have et3 := z3 _ _ et3
    have ed := z3 _ _ ed
    have Z3 := Z2.trans z3
    generalize upd K2 t4 (.tup [V.int 1, V.int (-1)]) = K3 at z3 Z3 ed et1 et2 et3 et4 ⊢
    refine ⟨(by show 2 ≤ sizeLine; decide), fun t5 h5 => ?_⟩
    have z4 := same_new h5 (.tup [V.bl true, V.int 1])
    have et5 := upd_same (H := K3) (a := t5) (o := (.tup [V.bl true, V.int 1]))
    have nt5 : t5 ≠ a := (ne_of_none ed h5).symm
    have et1 := z4 _ _ et1
    have et2 := z4 _ _ et2
    have et3 := z4 _ _ et3
    have et4 := z4 _ _ et4
    have ed := z4 _ _ ed
    have Z4 := Z3.trans z4
    generalize upd K3 t5 (.tup [V.bl true, V.int 1]) = K4 at z4 Z4 ed et1 et2 et3 et4 et5 ⊢
    refine ⟨(by show 2 ≤ sizeLine; decide), fun t6 h6 => ?_⟩
    have z5 := same_new h6 (.tup [V.int 1, V.non])
    have et6 := upd_same (H := K4) (a := t6) (o := (.tup [V.int 1, V.non]))
    have nt6 : t6 ≠ a := (ne_of_none ed h6).symm
    have et1 := z5 _ _ et1
    have et2 := z5 _ _ et2
    have et3 := z5 _ _ et3
    have et4 := z5 _ _ et4
    have et5 := z5 _ _ et5
    have ed := z5 _ _ ed
    have Z5 := Z4.trans z5
    generalize upd K4 t6 (.tup [V.int 1, V.non]) = K5 at z5 Z5 ed et1 et2 et3 et4 et5 et6 ⊢
    refine ⟨(by show 2 ≤ sizeLine; decide), fun t10 h10 => ?_⟩
    have z6 := same_new h10 (.tup [V.int 1, V.str "1"])
    have et10 := upd_same (H := K5) (a := t10) (o := (.tup [V.int 1, V.str "1"]))
    have nt10 : t10 ≠ a := (ne_of_none ed h10).symm
    have et1 := z6 _ _ et1
    have et2 := z6 _ _ et2
    have et3 := z6 _ _ et3
    have et4 := z6 _ _ et4
    have et5 := z6 _ _ et5
    have et6 := z6 _ _ et6
    have ed := z6 _ _ ed
    have Z6 := Z5.trans z6
    generalize upd K5 t10 (.tup [V.int 1, V.str "1"]) = K6 at z6 Z6 ed et1 et2 et3 et4 et5 et6 et10 ⊢
    refine ⟨(by show 0 ≤ sizeLine; decide), fun t11 h11 => ?_⟩
    have z7 := same_new h11 (.tup [])
    have et11 := upd_same (H := K6) (a := t11) (o := (.tup []))
    have nt11 : t11 ≠ a := (ne_of_none ed h11).symm
    have et1 := z7 _ _ et1
    have et2 := z7 _ _ et2
    have et3 := z7 _ _ et3
    have et4 := z7 _ _ et4
    have et5 := z7 _ _ et5
    have et6 := z7 _ _ et6
    have et10 := z7 _ _ et10
    have ed := z7 _ _ ed
    have Z7 := Z6.trans z7
    generalize upd K6 t11 (.tup []) = K7 at z7 Z7 ed et1 et2 et3 et4 et5 et6 et10 et11 ⊢
    refine ⟨(by show 11 ≤ sizeLine; decide), fun L h12 => ?_⟩
    have z8 := same_new h12 (.lst [V.ref t1, V.ref t2, V.ref t3, V.ref t4, V.ref t5, V.ref t6, V.non, V.int 5, V.str "01", V.ref t10, V.ref t11])
    have eL := upd_same (H := K7) (a := L) (o := (.lst [V.ref t1, V.ref t2, V.ref t3, V.ref t4, V.ref t5, V.ref t6, V.non, V.int 5, V.str "01", V.ref t10, V.ref t11]))
    have nL : L ≠ a := (ne_of_none ed h12).symm
    have et1 := z8 _ _ et1
    have et2 := z8 _ _ et2
    have et3 := z8 _ _ et3
    have et4 := z8 _ _ et4
    have et5 := z8 _ _ et5
    have et6 := z8 _ _ et6
    have et10 := z8 _ _ et10
    have et11 := z8 _ _ et11
    have ed := z8 _ _ ed
    have Z8 := Z7.trans z8
    generalize upd K7 L (.lst [V.ref t1, V.ref t2, V.ref t3, V.ref t4, V.ref t5, V.ref t6, V.non, V.int 5, V.str "01", V.ref t10, V.ref t11]) = K8 at z8 Z8 ed et1 et2 et3 et4 et5 et6 et10 et11 eL ⊢
    have S10 := S9.same Z8
    refine ⟨a, L, _, _, rfl, S10.w, by decide, eL, nL.symm, (by show 0 < 11; decide), (by show 11 < 1000; decide), fun i v H10 hv b10 w10 => ?_⟩
    have S11 : St K PT a H H10 300 so t w0 turns x y hs := S10.but b10 (w10.up (by decide))
    have hi : Inp K (core a K8) v := by
      have m := List.mem_of_getElem? hv
      simp only [List.mem_cons, List.not_mem_nil, or_false] at m
      rcases m with rfl | rfl | rfl | rfl | rfl | rfl | rfl | rfl | rfl | rfl | rfl
      · exact inp_tup (core_at nt1 et1 rfl) (.cons (.int 1) .nil) (all1 sm1) (by decide) (by decide) (fun ⟨p, q, e, _⟩ => by injection e with e; cases e)
      · exact inp_tup (core_at nt2 et2 rfl) (.cons (.int 1) (.cons (.int 2) (.cons (.int 3) .nil))) (all3 sm1 sm2 sm3) (by decide) (by decide) (fun ⟨p, q, e, _⟩ => by injection e with e; cases e)
      · refine ⟨.list [.int 1, .int 2], .lst (SqL.of (core_at nt3 et3 rfl)) (.cons (.int 1) (.cons (.int 2) .nil)), rfl, fun p e _ => ?_, nice_list (all2 sm1 sm2) (by decide), (fun ⟨p, q, e, _⟩ => by cases e), fun ds e => by cases e⟩
        injection e with e
        rw [← e]
        exact m3
      · exact inp_tup (core_at nt4 et4 rfl) (.cons (.int 1) (.cons (.int (-1)) .nil)) (all2 sm1 smm) (by decide) (by decide) (fun ⟨p, q, e, _, h⟩ => by cases e; exact absurd h (by decide))
      · exact inp_tup (core_at nt5 et5 rfl) (.cons (.bl true) (.cons (.int 1) .nil)) (all2 smt sm1) (by decide) (by decide) (fun ⟨p, q, e, _⟩ => by injection e with e; cases e)
      · exact inp_tup (core_at nt6 et6 rfl) (.cons (.int 1) (.cons .non .nil)) (all2 sm1 smn) (by decide) (by decide) (fun ⟨p, q, e, _⟩ => by injection e with e; cases e)
      · exact inp_bare .non smn rfl
      · exact inp_bare (.int 5) sm5 rfl
      · exact inp_bare (.str "01") sm01 rfl
      · exact inp_tup (core_at nt10 et10 rfl) (.cons (.int 1) (.cons (.str "1") .nil)) (all2 sm1 sms) (by decide) (by decide) (fun ⟨p, q, e, _⟩ => by injection e with e; cases e)
      · exact inp_tup (core_at nt11 et11 rfl) .nil (fun d m => by cases m) (by decide) (by decide) (fun ⟨p, q, e, _⟩ => by injection e with e; cases e)
    obtain ⟨di2, i1, i2, i3, i4, i5, i6⟩ := hi.mono b10.cor
    have L9 := L8.mono ((b9.cor.trans (same_cor Z8)).trans b10.cor)
    exact k _ _ ⟨v, wv, di2, dw, "inputs", rfl, S11, { L9 with ki := i1, fi := i2, ni := i3, mi := i4, zi := i6, due := .inr (.inl ⟨decide_eq_true (by omega), i5, rfl⟩) }⟩
  obtain ⟨iv, wv, di, dw, u, rfl, S12, L12⟩ := hI
  refine ⟨_, rfl, a, _, 4, rfl, S12.w, by decide, by decide, by decide, fun r7 H13 _ _ b13 w13 => ⟨rfl, _, rfl, join2 (fun σ Hc => ∃ iv wv dv di dw dd u, σ = [some (.ref a), some (.int (turns : Int)), some (.ref so), some iv, some wv, some dv, some (.str u), none, none, none] ∧
      St K PT a H Hc 400 so t w0 turns x y hs ∧ Sel K (core a Hc) iv wv dv di dw dd u) ?_ (fun σ Hc hI => ?_) (fun _ k => ?_)⟩⟩
  · exact ⟨_, _, _, _, _, _, _, rfl, S12.but (m := 400) b13 (w13.up (by decide)), L12.mono b13.cor⟩
  case refine_3 =>
    have S13 := S12.but b13 w13
    obtain ⟨xe, ye, ze, ee, _⟩ := id S13.w
    refine ⟨_, rfl, _, rfl, (by show 1 ≤ sizeLine; decide), fun t14 h14 => ?_⟩
    have z14 := same_new h14 (.tup [V.int 1])
    have et14 := upd_same (H := H13) (a := t14) (o := .tup [V.int 1])
    have nt14 : t14 ≠ a := (ne_of_none ee h14).symm
    have ee2 := z14 _ _ ee
    generalize upd H13 t14 (.tup [V.int 1]) = K14 at z14 et14 ee2 ⊢
    refine ⟨_, _, rfl, rfl, ⟨by decide, by decide, by decide⟩, (by show 7 ≤ sizeLine; decide), fun L h15 => ?_⟩
    have z15 := same_new h15 (.lst [V.int (-1), V.int 6, V.bl true, V.non, V.str "1", V.ref t14, V.int (10 ^ (30 : Int).toNat)])
    have nL : L ≠ a := (ne_of_none ee2 h15).symm
    refine ⟨a, L, _, _, rfl, (S13.same (z14.trans z15)).w, by decide, upd_same, nL.symm, (by show 0 < 7; decide), (by show 7 < 1000; decide), fun i v H15 hv b15 w15 => ?_⟩
    have S15 : St K PT a H H15 400 so t w0 turns x y hs := (S13.same (z14.trans z15)).but b15 (w15.up (by decide))
    have hd : ∃ dd, Kd K (core a K14) v dd ∧ within dd 0 5 = false := by
      have m := List.mem_of_getElem? hv
      simp only [List.mem_cons, List.not_mem_nil, or_false] at m
      rcases m with rfl | rfl | rfl | rfl | rfl | rfl | rfl
      · exact ⟨_, .dp (.int (-1)), by decide⟩
      · exact ⟨_, .dp (.int 6), by decide⟩
      · exact ⟨_, .dp (.bl true), rfl⟩
      · exact ⟨_, .dp .non, rfl⟩
      · exact ⟨_, .dp (.str _), rfl⟩
      · exact ⟨_, .dp (.tup (SqT.of (core_at nt14 et14 rfl)) (.cons (.int 1) .nil)), rfl⟩
      · exact ⟨_, .dp (.int _), by decide⟩
    obtain ⟨dd2, d1, d2⟩ := hd
    have L15 := L12.mono (((b13.cor.trans (same_cor z14)).trans (same_cor z15)).trans b15.cor)
    exact k _ _ ⟨iv, wv, v, di, dw, dd2, "rounds", rfl, S15, { L15 with kd := kd_mono ((same_cor z15).trans b15.cor) d1, due := .inl ⟨d2, rfl⟩ }⟩
  obtain ⟨iv, wv, dv, di, dw, dd, u, rfl, S16, L16⟩ := hI
  refine ⟨_, rfl, _, rfl, (by show 2 ≤ sizeLine; decide), fun l16 h16 n16 => ?_⟩
  refine L16.pairN ((core_same a _).trans (same_new h16 _)) n16 upd_same ?_
  have S17 := S16.same (same_new h16 (.lst [iv, wv]))
  have L17 := L16.mono (same_cor (a := a) (same_new h16 (.lst [iv, wv])))
  refine ⟨2, rfl, by decide, by decide, for_range (n := 2) (fun i σ Hc => ∃ g, σ = [some (.ref a), some (.int (turns : Int)), some (.ref so), some iv, some wv, some dv, some (.str u), some (.str (PyData.list [di, dw]).shown), g, none] ∧
      St K PT a H Hc 400 so t w0 turns x y hs ∧ Sel K (core a Hc) iv wv dv di dw dd u) ⟨none, rfl, S17, L17⟩ ?_ ?_⟩
  · rintro i σ Hc _ ⟨g, rfl, S, L⟩
    refine ⟨S.T, fun Ha ea Ta => ?_⟩
    refine L.said (ext_cor (a := a) ea).out q0 q1 q2 rfl rfl rfl fun Hb sb => ?_
    have Sb := (S.ext ea Ta).same sb
    have Lb := L.mono ((ext_cor (a := a) ea).trans (same_cor sb))
    refine ⟨_, rfl, rfl, _, rfl, iteNS rfl ?_⟩
    refine ⟨_, rfl, _, rfl, (by show 2 ≤ sizeLine; decide), fun l hl nl => ?_⟩
    refine Lb.pairN ((core_same a _).trans (same_new hl _)) nl upd_same ?_
    refine ⟨_, rfl, rfl, _, rfl, iteNS rfl ?_⟩
    exact ⟨_, rfl, Sb.same (same_new hl _), Lb.mono (same_cor (same_new hl _))⟩
  · rintro σ Hc ⟨g, rfl, S, L⟩
    obtain ⟨xf, yf, zf, ef, _⟩ := id S.w
    refine ⟨_, rfl, _, rfl, (by show 1 ≤ sizeLine; decide), fun l20 h20 => ?_⟩
    have z20 := same_new h20 (.lst [V.int 2])
    have el20 := upd_same (H := Hc) (a := l20) (o := .lst [V.int 2])
    have nl20 : l20 ≠ a := (ne_of_none ef h20).symm
    have ef2 := z20 _ _ ef
    generalize upd Hc l20 (.lst [V.int 2]) = K20 at z20 el20 ef2 ⊢
    refine ⟨_, _, rfl, rfl, ⟨by decide, by decide, by decide⟩, (by show 8 ≤ sizeLine; decide), fun L2 h21 => ?_⟩
    have z21 := same_new h21 (.lst [V.int (-1), V.int 4, V.bl true, V.bl false, V.non, V.str "2", V.ref l20, V.int (10 ^ (30 : Int).toNat)])
    have nL2 : L2 ≠ a := (ne_of_none ef2 h21).symm
    refine ⟨a, L2, _, _, rfl, (S.same (z20.trans z21)).w, by decide, upd_same, nL2.symm, (by show 0 < 8; decide), (by show 8 < 1000; decide), fun i v H22 hv b22 w22 => ?_⟩
    have S22 : St K PT a H H22 500 so t w0 turns x y hs := (S.same (z20.trans z21)).but b22 (w22.up (by decide))
    have hd : ∃ dd, Kd K (core a K20) v dd ∧ within dd 0 3 = false := by
      have m := List.mem_of_getElem? hv
      simp only [List.mem_cons, List.not_mem_nil, or_false] at m
      rcases m with rfl | rfl | rfl | rfl | rfl | rfl | rfl | rfl
      · exact ⟨_, .dp (.int (-1)), by decide⟩
      · exact ⟨_, .dp (.int 4), by decide⟩
      · exact ⟨_, .dp (.bl true), rfl⟩
      · exact ⟨_, .dp (.bl false), rfl⟩
      · exact ⟨_, .dp .non, rfl⟩
      · exact ⟨_, .dp (.str _), rfl⟩
      · exact ⟨_, .dp (.lst (SqL.of (core_at nl20 el20 rfl)) (.cons (.int 2) .nil)), rfl⟩
      · exact ⟨_, .dp (.int _), by decide⟩
    obtain ⟨dd2, d1, d2⟩ := hd
    refine ⟨S22.T, fun Ha ea Ta => ?_⟩
    refine weav_said d1 d2 (((same_cor (a := a) z21).trans b22.cor).trans (ext_cor ea)).out q0 rfl fun Hb sb => ?_
    have S23 := (S22.ext ea Ta).same sb
    refine ⟨rfl, _, rfl, iteNS rfl ?_⟩
    refine ⟨S23.T, fun Hc3 ec Tc => ?_⟩
    have S24 := S23.ext ec Tc
    refine last_said (E0 S24) (core_same a _) q0 q1 q2 rfl rfl (core_of S24.so).2.1 fun Hd sd => ?_
    have S25 := S24.same sd
    refine ⟨rfl, ?_⟩
    rw [decide_eq_true rfl]
    exact q _ S25.c S25.T
end
end TA

set_option Elab.async false
set_option maxRecDepth 100000
set_option maxHeartbeats 4000000
namespace TA
open PySem L2 PyProof.Rows LamX
set_option linter.unusedVariables false
def spLaw (K : PySem.W.Frag) (PT : Addr) : Sp := fun vs H Q _ => ∃ (a : Addr) (ns : List Int), vs = [.ref a] ∧ SqL K H a (ns.map V.int) ∧ ns.length ≤ 63 ∧ Tabs [(PT, lamQ)] H ∧ ∀ H', Q (.bl true) H'
theorem tabs_same {T : List (Addr × Str)} {H H' : Hp} (t : Tabs T H) (s : Same H H') : Tabs T H' := t.ext s
theorem scLaw : FnScope ["_law_script", "_law_cell"] ["_law_script"] (defScope sLaw) := ⟨rfl, rfl, rfl, by decide +kernel, rfl, by decide +kernel, by decide +kernel⟩
theorem cut_ints {ns : List Int} {lo hi : Option Int} {x : V} (h : x ∈ cutV (ns.map V.int) lo hi) : ∃ c : Int, x = .int c := by
  unfold cutV at h
  have h1 := List.mem_of_mem_drop (List.mem_of_mem_take h)
  obtain ⟨c, _, e⟩ := List.mem_map.mp h1
  exact ⟨c, e.symm⟩
section
variable {P : Program} {w : World} {K : PySem.W.Frag} {mg : Str → Option Value} {base : Heap}
theorem ok_law {f g1 g2 g3 PT : Addr} {fd d1 d2 d3 : FuncData} (F : Fun K "law" "law" sLaw f fd) (D1 : Def P w K mg base "_law_cell_at" ["_law_script", "_law_k"] 1 (spCell K) g1 d1) (D2 : Def P w K mg base "_law_well" ["_law_cell"] 1 spWell g2 d2) (D3 : Quiet P w K mg base 8 g3 d3 ["_law_well_here"] (spRight PT))
    (b3 : Binds K d3 ["_law_well_here"] []) (k3 : PySem.W.keepIn K (.ref g3) = true) (m3 : mg "_law_right" = some (.ref g3)) : Quiet P w K mg base 9 f fd ["_law_script"] (spLaw K PT) := by
  refine quiet_of F scLaw (fun vs H Q E h => ?_) (fun cdv A outer s H vs Q E hgu hr h => ?_)
  · obtain ⟨a, ns, rfl, _⟩ := h
    rfl
  obtain ⟨a, ns, rfl, hS, h63, hT, q⟩ := h
  have nd := scLaw.nd
  refine ⟨_, pss_cons (ps_for PassesOwn.never rfl (pi_list (pe_op op_cat (pe_lst (pa_cons (pe_call D1.G (hr.mono (by decide)) rfl D1.m D1.k D1.b .nil pass0 (pa_cons (pv 0) (pa_cons pe_int pa_nil))) pa_nil)) (pe_slice sl_list (pv 0) (po_some pe_int) (po_some pe_int)))) (pg_name (i := 1) nd rfl (Or.inl rfl))
      (pss_one (ps_if (pt_not (pt_val (pe_quiet D3 hgu hr rfl m3 k3 b3 (pa_cons (pe_call D2.G (hr.mono (by decide)) rfl D2.m D2.k D2.b .nil pass0 (pa_cons (pv 1) pa_nil)) pa_nil)))) (pss_one (ps_ret pe_bl)) pss_nil)))
    (pss_one (ps_ret pe_bl)), ?_⟩
  refine ⟨_, rfl, a, ns, 0, rfl, hS, by omega, Int.le_refl 0, fun c => ⟨(by show 1 ≤ sizeLine; decide), fun l hl0 => ?_⟩⟩
  have s1 := same_new hl0 (.lst [V.int c])
  refine ⟨_, rfl, _, rfl, _, rfl, a, _, rfl, s1.seq hS, fun p hp => ?_⟩
  have s2 := same_new hp (.lst (cutV (ns.map V.int) (some 1) (some 10)))
  have hcl := cutV_length (ns.map V.int) (some 1) (some 10)
  rw [List.length_map] at hcl
  refine ⟨l, p, _, _, rfl, rfl, s2 _ _ upd_same, upd_same, small13 (by show 1 + _ ≤ _; omega), fun ct hct => ?_⟩
  refine ⟨ct, rfl, ⟨_, SqL.of upd_same⟩, for_list (K := K) (a := ct) (xs := [V.int c] ++ cutV (ns.map V.int) (some 1) (some 10)) (fun i σ Hc => ∃ g, σ = [some (.ref a), g] ∧ Hc ct = some (.lst ([V.int c] ++ cutV (ns.map V.int) (some 1) (some 10))) ∧ Tabs [(PT, lamQ)] Hc) ⟨none, rfl, upd_same, tabs_same hT (s1.trans (s2.trans (same_new hct _)))⟩ ?_ ?_ ?_⟩
  · rintro i σ Hc _ ⟨g, _, h, _⟩
    exact SqL.of h
  · rintro i x σ Hc hx ⟨g, rfl, h, hTc⟩
    obtain ⟨z, rfl⟩ : ∃ z : Int, x = .int z := by
      rcases List.mem_append.mp (List.mem_of_getElem? hx) with m | m
      · exact ⟨c, by simpa using m⟩
      · exact cut_ints m
    refine ⟨_, rfl, z, rfl, fun w x y hw hx hy hy2 => ?_⟩
    have nw : ct ≠ w := ne_of_none h hw
    refine ⟨w, rfl, ⟨x, y, 0, upd_same, hx, hy, hy2, Int.le_refl 0, Int.le_refl 0⟩, tabs_same hTc (same_new hw _), fun H' b hT' => ?_⟩
    refine ⟨true, rfl, iteF ?_⟩
    exact ⟨_, rfl, b.out _ _ (core_at nw (by rw [upd_ne nw]; exact h) rfl), hT'⟩
  · rintro σ Hc ⟨g, rfl, h, _⟩
    exact q _
end
end TA

set_option Elab.async false
set_option maxRecDepth 100000
set_option maxHeartbeats 4000000
namespace TA
open PySem L2 PyProof.Rows LamX
set_option linter.unusedVariables false
/-! the law called, nothing under way, one table of code -/
section
variable {P : Program} {w : World} {K : PySem.W.Frag} {mg mb : Str → Option Value}
/-- the script and the table, as they are known at the call -/
def atCall (K : PySem.W.Frag) (PT a : Addr) (ob : Obj) (xs : List V) : Hp := fun b => if b = PT then some (.tbl #[]) else if b = a then (if (K.lookup a).isSome then none else some (.frz ob (.lst xs))) else none
theorem atCall_T {PT a : Addr} {ob : Obj} {xs : List V} : atCall K PT a ob xs PT = some (.tbl #[]) := if_pos rfl
theorem atCall_a {PT a : Addr} {ob : Obj} {xs : List V} (n : a ≠ PT) : atCall K PT a ob xs a = if (K.lookup a).isSome then none else some (.frz ob (.lst xs)) := by
  unfold atCall
  rw [if_neg n, if_pos rfl]
theorem atCall_no {PT a b : Addr} {ob : Obj} {xs : List V} (n : b ≠ PT) (m : b ≠ a) : atCall K PT a ob xs b = none := by
  unfold atCall
  rw [if_neg n, if_neg m]
theorem quiet_end {k : Nat} {fa a c PT : Addr} {fd : FuncData} {x : Str} {sp : Sp} {s : Shared} {vs : List Value} {ns : List Int}
    (KX : K.In s.heap) (gl : s.heap.Ns mainGlobals mg) (bn : s.heap.Ns builtinsNs mb) (bb : ∀ x : Str, x ≠ "__name__" → mb x = bootBuiltins x) (nl : s.heap.NoLimit) (gs : s.gens = #[])
    (tb : s.heap.get? PT = some { cls := .none, data := .fields #[] }) (kT : K.lookup PT = none) (cd : PySem.W.CodeHd s.heap c PT)
    (bm : ∃ (b : Addr) (ob : Obj), mg "__builtins__" = some (.ref b) ∧ b ≠ builtinsNs ∧ s.heap.get? b = some ob ∧ ob.cls = .type "module" ∧ ob.dict = some builtinsNs ∧ ob.data = .plain)
    (sc : s.heap.get? a = some { cls := .type "list", data := .seq vs.toArray }) (hi : IntsAre vs ns) (hz : ns.length ≤ sizeLine) (hr : Room k callerA)
    (F : ∀ base : Heap, K.In base → base.Ns mainGlobals mg → TabB base mg c PT → Quiet P w K mg base k fa fd [x] sp) (bd : ∀ (s : Shared) (u : Value), BindsTo s fd ⟨[u], []⟩ [(x, u)])
    (hsp : ∀ H : Hp, H PT = some (.tbl #[]) → SqL K H a (ns.map V.int) → sp [.ref a] H (fun v _ => v = .bl true) fun _ _ _ => False) :
    codeAny (model P w) callerA (.call (.ref fa) ⟨[.ref a], []⟩) (fun r s' => r = .ok (.ret (.bool true)) ∧ OldK s.heap s'.heap ∧ s'.os = s.os ∧ AllBare s'.gens) s := by
  have rv := vals_ints hi
  have ln := hi.length
  have naT : a ≠ PT := fun e => by
    rw [e, tb] at sc
    have := congrArg Obj.data (Option.some.inj sc)
    cases this
  obtain ⟨H, HT, Ha, Ho⟩ : ∃ H : Hp, H PT = some (.tbl #[]) ∧ (H a = if (K.lookup a).isSome then none else some (.frz { cls := .type "list", data := .seq vs.toArray } (.lst (ns.map V.int)))) ∧ ∀ b, b ≠ PT → b ≠ a → H b = none := ⟨_, atCall_T, atCall_a naT, fun b n m => atCall_no n m⟩
  have seen : SqL K H a (ns.map V.int) := by
    cases e : K.lookup a with
    | none =>
      rw [e] at Ha
      exact .inl (.inr ⟨_, Ha⟩)
    | some o =>
      have q := KX a o e
      rw [sc] at q
      cases q
      exact .inr ⟨_, vs.toArray, _, e, rfl, rfl, rfl, by rw [List.size_toArray, ln]; exact hz, by simpa using rv⟩
  have ok : HOk P w H s.heap := fun b u e => by
    by_cases h1 : b = PT
    · subst h1
      rw [HT] at e
      cases e
      exact tb
    · by_cases h2 : b = a
      · subst h2
        rw [Ha] at e
        cases q : (K.lookup b).isSome with
        | true => simp [q] at e
        | false =>
          simp [q] at e
          subst e
          exact ⟨sc, by rw [List.length_map]; exact hz, vs, _, rv, sc⟩
      · rw [Ho b h1 h2] at e
        cases e
  -- an object of another kind than the two is not known
  have apart : ∀ {b : Addr} {o : Obj}, s.heap.get? b = some o → (∀ xs n, o.data ≠ .seq xs n) → o.data ≠ .fields #[] → H b = none := fun {b o} e n1 n2 =>
    Ho b (fun z => by rw [z, tb] at e; cases e; exact n2 rfl) (fun z => by rw [z, sc] at e; cases e; exact n1 _ _ rfl)
  have keepO : ∀ {b : Addr} {o : Obj}, s.heap.get? b = some o → (∀ xs n, o.data ≠ .seq xs n) → o.data ≠ .fields #[] → (hidT s.heap H).get? b = some o := fun {b o} e n1 n2 => hidT_get e (apart e n1 n2)
  have keepN : ∀ {b : Addr} {m : Str → Option Value}, s.heap.Ns b m → (hidT s.heap H).Ns b m := fun {b m} h => by
    obtain ⟨o, es, ep, e, d, r⟩ := h
    exact ⟨o, es, ep, keepO e (fun xs n z => by rw [d] at z; cases z) (fun z => by rw [d] at z; cases z), d, r⟩
  have keepK : K.In (hidT s.heap H) := fun b o e => hidT_get (KX b o e) (by
    by_cases h1 : b = PT
    · rw [h1, kT] at e; cases e
    · by_cases h2 : b = a
      · subst h2
        rw [Ha, e]
        rfl
      · exact Ho b h1 h2)
  have TB : TabB (hidT s.heap H) mg c PT := by
    refine ⟨?_, ?_, fun z => ?_⟩
    · obtain ⟨o, us, file, tf, flags, tg, inF, text, tt, e1, r1, r2, r3, rest⟩ := cd
      refine ⟨o, us, file, tf, flags, tg, inF, text, tt, keepO e1 (fun xs n z => by rw [r2] at z; cases z) (fun z => ?_), r1, r2, r3, rest⟩
      rw [r2] at z
      cases z
      simp at r3
    · obtain ⟨b, ob, b1, b2, b3, b4, b5, b6⟩ := bm
      refine ⟨b, ob, b1, b2, fun z => ?_, fun z => ?_, keepO b3 (fun xs n z => by rw [b6] at z; cases z) (fun z => by rw [b6] at z; cases z), b4, b5, b6⟩
      · obtain ⟨o, es, ep, e, d, _⟩ := gl
        rw [z, e] at b3
        cases b3
        rw [d] at b6
        cases b6
      · rw [z, tb] at b3
        cases b3
        cases b6
    · obtain ⟨o, es, ep, e, d, _⟩ := gl
      rw [z, tb] at e
      cases e
      cases d
  have e0 : Env0 P w K mg (hidT s.heap H) callerA [] s H := by
    refine ⟨rfl, ⟨keepK, keepN gl, ⟨mb, keepN bn, bb⟩, ?_⟩, fun b o e => of_hidT e, Nat.le_of_eq (hidT_size _ _), trivial, fun b hb => absurd (show b ∈ ([] : List Addr) from hb) (by simp), ok, .of_eq gs⟩
    obtain ⟨mc, h1, h2⟩ := nl
    exact ⟨mc, keepN h1, h2⟩
  refine codeAny_mono ((F _ keepK (keepN gl) TB).run callerA [] s H ⟨[.ref a], []⟩ [.ref a] [.ref a] (fun v _ => v = .bl true) (fun _ _ _ => False) rfl hr e0 (bd s (.ref a)) (.cons rfl .nil) (hsp H HT seen)) fun r s' h => ?_
  match r, h with
  | .error _, h => exact False.elim h
  | .ok (.ret u), h =>
    obtain ⟨v, H', os, bare, un, ok', rr, q⟩ := h
    have ev : v = .bl true := q
    subst ev
    obtain rfl : u = Value.bool true := rr
    obtain ⟨more, hm⟩ := un.tbls PT #[] HT
    have tb' := ok' PT _ hm
    have old : ∀ b o, b ≠ PT → s.heap.get? b = some o → s'.heap.get? b = some o := fun b o n e => by
      cases g : H b with
      | none => exact un.keep b o e g (fun z => absurd (show b ∈ ([] : List Addr) from z) (by simp)) (by simp)
      | some u =>
        by_cases h2 : b = a
        · subst h2
          have fz : ∃ ob xs, u = .frz ob (.lst xs) := by
            rw [Ha] at g
            cases q2 : (K.lookup b).isSome with
            | true => simp [q2] at g
            | false =>
              simp [q2] at g
              exact ⟨_, _, g.symm⟩
          obtain ⟨ob, xs, rfl⟩ := fz
          obtain ⟨g1, _⟩ := ok b _ g
          obtain ⟨g2, _⟩ := ok' b _ (un.frzs b ob _ g)
          rw [e] at g1
          cases g1
          exact g2
        · rw [Ho b n h2] at g
          cases g
    refine ⟨rfl, ⟨fun b o e => ?_, fun b o e => ?_⟩, os, bare⟩
    · by_cases n : b = PT
      · subst n
        rw [tb] at e
        cases e
        exact .inr (.inl ⟨(cd.tab tb).isCodeTable, rfl, #[], more, rfl, tb'⟩)
      · exact .inl (old b o n e)
    · by_cases n : b = PT
      · subst n
        exact ⟨_, tb'⟩
      · exact ⟨o, old b o n e⟩
end
end TA

set_option Elab.async false
set_option maxRecDepth 100000
set_option maxHeartbeats 4000000
set_option linter.unusedVariables false
namespace TA
open PySem PySem.Spec L2 PyProof.Rows LamX
/-! what the top leaves, as tests that run -/
def excB (K : PySem.W.Frag) (D : Addr) : Bool :=
  decide (PySem.W.findIn K (.ref D) "__getattribute__" = some (some (.builtin "BaseException.__getattribute__"))) && (decide (PySem.W.findIn K (.ref D) "__getattr__" = some none) && (decide (PySem.W.subIn K (.ref D) (.type "BaseException") = some true) &&
  (PySem.W.hasDictIn K D && (decide (PySem.W.findIn K (.ref D) "__class__" = some (some (.builtin "object.__class__"))) && (decide (PySem.W.specialIn K (.builtin "object.__class__") "__get__" = some (some (.builtin "getset_descriptor.__get__"))) &&
  (decide (PySem.W.takesIn K (.builtin "object.__class__") = some true) && decide (PySem.W.mroIn K D (.type "object") = some true)))))))
theorem excB_ok {K : PySem.W.Frag} {D : Addr} (h : excB K D = true) : ExcC K D := by
  obtain ⟨a, h⟩ := Bool.and_eq_true_iff.mp h
  obtain ⟨b, h⟩ := Bool.and_eq_true_iff.mp h
  obtain ⟨c, h⟩ := Bool.and_eq_true_iff.mp h
  obtain ⟨d, h⟩ := Bool.and_eq_true_iff.mp h
  obtain ⟨e, h⟩ := Bool.and_eq_true_iff.mp h
  obtain ⟨f, h⟩ := Bool.and_eq_true_iff.mp h
  obtain ⟨g, h⟩ := Bool.and_eq_true_iff.mp h
  exact ⟨of_decide_eq_true a, of_decide_eq_true b, of_decide_eq_true c, d, of_decide_eq_true e, of_decide_eq_true f, of_decide_eq_true g, of_decide_eq_true h⟩
def raiseB (K : PySem.W.Frag) (C : Addr) : Bool := decide (PySem.W.subIn K (.ref C) (.type "BaseException") = some true) && decide (PySem.W.typeIn K (.ref C) = some (.type "type"))
theorem raiseB_ok {K : PySem.W.Frag} {mg : Str → Option Value} {n : Str} {C : Addr} (h : raiseB K C = true) (m : mg n = some (.ref C)) (x : PySem.W.excIn K C [.type "ValueError", .type "Exception", .type "BaseException", .type "object"] "ValueError.__new__" = true) (k : PySem.W.keepIn K (.ref C) = true) : RaiseC K mg n C := by
  obtain ⟨a, b⟩ := Bool.and_eq_true_iff.mp h
  exact ⟨m, x, k, of_decide_eq_true a, of_decide_eq_true b⟩
def saidB (K : PySem.W.Frag) (cA cR cI cW cN D : Addr) (n : Nat) : Bool := excB K D && (decide (PySem.W.exmOne K (.ref D) (.ref cA) = some true) && (decide (PySem.W.kitOne K (.ref D) (.ref cR) = some (decide (n = 0))) && (decide (PySem.W.kitOne K (.ref D) (.ref cI) = some (decide (n = 1))) &&
  (decide (PySem.W.kitOne K (.ref D) (.ref cW) = some (decide (n = 2))) && (decide (PySem.W.kitOne K (.ref D) (.ref cN) = some (decide (n = 3))) && decide (PySem.W.kitOne K (.ref D) (.type "ValueError") = some true))))))
theorem saidB_ok {K : PySem.W.Frag} {cA cR cI cW cN D : Addr} {n : Nat} (h : saidB K cA cR cI cW cN D n = true) : SaidC K cA cR cI cW cN D n := by
  obtain ⟨a, h⟩ := Bool.and_eq_true_iff.mp h
  obtain ⟨b, h⟩ := Bool.and_eq_true_iff.mp h
  obtain ⟨c, h⟩ := Bool.and_eq_true_iff.mp h
  obtain ⟨d, h⟩ := Bool.and_eq_true_iff.mp h
  obtain ⟨e, h⟩ := Bool.and_eq_true_iff.mp h
  obtain ⟨f, g⟩ := Bool.and_eq_true_iff.mp h
  exact ⟨excB_ok a, of_decide_eq_true b, of_decide_eq_true c, of_decide_eq_true d, of_decide_eq_true e, of_decide_eq_true f, of_decide_eq_true g⟩
theorem all_mk {l : PySem.W.OpenLaw} {w : World} {K : PySem.W.Frag} {h : Heap} {mg : Str → Option Value} {PT : Addr} {fa f1 f2 f3 f4 f5 f6 f7 f8 f9 f10 f11 f12 f13 f14 f15 f16 f17 hA0 c cA cR cI cW cN : Addr} (X : K.In h) (G : h.Ns mainGlobals mg) (hfa : mg "law" = some (.ref fa))
    {od1 an1 od2 an2 od3 an3 od4 an4 od5 an5 od6 an6 od7 an7 od8 an8 od9 an9 od10 an10 od11 an11 od12 an12 od13 an13 od14 an14 od15 an15 od16 an16 od17 an17 odH0 : Option Addr} {sl1 sl2 sl3 sl4 sl5 sl6 sl7 sl8 sl9 sl10 sl11 sl12 sl13 sl14 sl15 sl16 sl17 slH0 : Array (Option Value)} {oc1 kV1 dc1 pm1 ct1 cd1 oc2 kV2 dc2 pm2 ct2 cd2 oc3 kV3 dc3 pm3 ct3 cd3 oc4 kV4 dc4 pm4 ct4 cd4 oc5 kV5 dc5 pm5 ct5 cd5 oc6 kV6 dc6 pm6 ct6 cd6 oc7 kV7 dc7 pm7 ct7 cd7 oc8 kV8 dc8 pm8 ct8 cd8 oc9 kV9 dc9 pm9 ct9 cd9 oc10 kV10 dc10 pm10 ct10 cd10 oc11 kV11 dc11 pm11 ct11 cd11 oc12 kV12 dc12 pm12 ct12 cd12 oc13 kV13 dc13 pm13 ct13 cd13 oc14 kV14 dc14 pm14 ct14 cd14 oc15 kV15 dc15 pm15 ct15 cd15 oc16 kV16 dc16 pm16 ct16 oc17 kV17 dc17 pm17 ct17 cd17 : Value} {tI0 tI1 tI2 tT0_0 tT0_1 : Tok} {nH0 : Nat}
    (a1 : PySem.W.nsIn K mainGlobals "is_whole" = some (some (.ref f1))) (l1 : K.lookup f1 = some ⟨oc1, od1, .func (PySem.W.fnOf "is_whole" "is_whole" (defArgs sWhole) (defBody sWhole) (defScope sWhole) .none kV1 dc1 pm1 an1 cd1 ct1), sl1⟩) (co1 : PySem.W.codeIn K cd1 "is_whole" = true) (k1 : PySem.W.keepIn K (.ref f1) = true)
    (a2 : PySem.W.nsIn K mainGlobals "is_whole_within" = some (some (.ref f2))) (l2 : K.lookup f2 = some ⟨oc2, od2, .func (PySem.W.fnOf "is_whole_within" "is_whole_within" (defArgs sWithin) (defBody sWithin) (defScope sWithin) .none kV2 dc2 pm2 an2 cd2 ct2), sl2⟩) (co2 : PySem.W.codeIn K cd2 "is_whole_within" = true) (k2 : PySem.W.keepIn K (.ref f2) = true)
    (a3 : PySem.W.nsIn K mainGlobals "is_hand" = some (some (.ref f3))) (l3 : K.lookup f3 = some ⟨oc3, od3, .func (PySem.W.fnOf "is_hand" "is_hand" (defArgs sHand) (defBody sHand) (defScope sHand) .none kV3 dc3 pm3 an3 cd3 ct3), sl3⟩) (co3 : PySem.W.codeIn K cd3 "is_hand" = true) (k3 : PySem.W.keepIn K (.ref f3) = true)
    (a4 : PySem.W.nsIn K mainGlobals "is_inputs" = some (some (.ref f4))) (l4 : K.lookup f4 = some ⟨oc4, od4, .func (PySem.W.fnOf "is_inputs" "is_inputs" (defArgs sInputs) (defBody sInputs) (defScope sInputs) .none kV4 dc4 pm4 an4 cd4 ct4), sl4⟩) (co4 : PySem.W.codeIn K cd4 "is_inputs" = true) (k4 : PySem.W.keepIn K (.ref f4) = true)
    (a5 : PySem.W.nsIn K mainGlobals "is_weaving" = some (some (.ref f5))) (l5 : K.lookup f5 = some ⟨oc5, od5, .func (PySem.W.fnOf "is_weaving" "is_weaving" (defArgs sWeaving) (defBody sWeaving) (defScope sWeaving) .none kV5 dc5 pm5 an5 cd5 ct5), sl5⟩) (co5 : PySem.W.codeIn K cd5 "is_weaving" = true) (k5 : PySem.W.keepIn K (.ref f5) = true)
    (a6 : PySem.W.nsIn K mainGlobals "put_in" = some (some (.ref f6))) (l6 : K.lookup f6 = some ⟨oc6, od6, .func (PySem.W.fnOf "put_in" "put_in" (defArgs sPut) (defBody sPut) (defScope sPut) .none kV6 dc6 pm6 an6 cd6 ct6), sl6⟩) (co6 : PySem.W.codeIn K cd6 "put_in" = true) (k6 : PySem.W.keepIn K (.ref f6) = true)
    (a7 : PySem.W.nsIn K mainGlobals "known" = some (some (.ref f7))) (l7 : K.lookup f7 = some ⟨oc7, od7, .func (PySem.W.fnOf "known" "known" (defArgs sKnown) (defBody sKnown) (defScope sKnown) .none kV7 dc7 pm7 an7 cd7 ct7), sl7⟩) (co7 : PySem.W.codeIn K cd7 "known" = true) (k7 : PySem.W.keepIn K (.ref f7) = true)
    (a8 : PySem.W.nsIn K mainGlobals "weavings" = some (some (.ref f8))) (l8 : K.lookup f8 = some ⟨oc8, od8, .func (PySem.W.fnOf "weavings" "weavings" (defArgs sWeav) (defBody sWeav) (defScope sWeav) .none kV8 dc8 pm8 an8 cd8 ct8), sl8⟩) (co8 : PySem.W.codeIn K cd8 "weavings" = true) (k8 : PySem.W.keepIn K (.ref f8) = true)
    (a9 : PySem.W.nsIn K mainGlobals "_law_cell_at" = some (some (.ref f9))) (l9 : K.lookup f9 = some ⟨oc9, od9, .func (PySem.W.fnOf "_law_cell_at" "_law_cell_at" (defArgs sCell) (defBody sCell) (defScope sCell) .none kV9 dc9 pm9 an9 cd9 ct9), sl9⟩) (co9 : PySem.W.codeIn K cd9 "_law_cell_at" = true) (k9 : PySem.W.keepIn K (.ref f9) = true)
    (a10 : PySem.W.nsIn K mainGlobals "_law_well" = some (some (.ref f10))) (l10 : K.lookup f10 = some ⟨oc10, od10, .func (PySem.W.fnOf "_law_well" "_law_well" (defArgs sWell) (defBody sWell) (defScope sWell) .none kV10 dc10 pm10 an10 cd10 ct10), sl10⟩) (co10 : PySem.W.codeIn K cd10 "_law_well" = true) (k10 : PySem.W.keepIn K (.ref f10) = true)
    (a11 : PySem.W.nsIn K mainGlobals "_law_draw" = some (some (.ref f11))) (l11 : K.lookup f11 = some ⟨oc11, od11, .func (PySem.W.fnOf "_law_draw" "_law_draw" (defArgs sDraw) (defBody sDraw) (defScope sDraw) .none kV11 dc11 pm11 an11 cd11 ct11), sl11⟩) (co11 : PySem.W.codeIn K cd11 "_law_draw" = true) (k11 : PySem.W.keepIn K (.ref f11) = true)
    (a12 : PySem.W.nsIn K mainGlobals "_law_one" = some (some (.ref f12))) (l12 : K.lookup f12 = some ⟨oc12, od12, .func (PySem.W.fnOf "_law_one" "_law_one" (defArgs sOne) (defBody sOne) (defScope sOne) .none kV12 dc12 pm12 an12 cd12 ct12), sl12⟩) (co12 : PySem.W.codeIn K cd12 "_law_one" = true) (k12 : PySem.W.keepIn K (.ref f12) = true)
    (a13 : PySem.W.nsIn K mainGlobals "_law_weaving" = some (some (.ref f13))) (l13 : K.lookup f13 = some ⟨oc13, od13, .func (PySem.W.fnOf "_law_weaving" "_law_weaving" (defArgs sLawWeav) (defBody sLawWeav) (defScope sLawWeav) .none kV13 dc13 pm13 an13 cd13 ct13), sl13⟩) (co13 : PySem.W.codeIn K cd13 "_law_weaving" = true) (k13 : PySem.W.keepIn K (.ref f13) = true)
    (a14 : PySem.W.nsIn K mainGlobals "_law_said" = some (some (.ref f14))) (l14 : K.lookup f14 = some ⟨oc14, od14, .func (PySem.W.fnOf "_law_said" "_law_said" (defArgs sSaid) (defBody sSaid) (defScope sSaid) .none kV14 dc14 pm14 an14 cd14 ct14), sl14⟩) (co14 : PySem.W.codeIn K cd14 "_law_said" = true) (k14 : PySem.W.keepIn K (.ref f14) = true)
    (a15 : PySem.W.nsIn K mainGlobals "_law_spoilt" = some (some (.ref f15))) (l15 : K.lookup f15 = some ⟨oc15, od15, .func (PySem.W.fnOf "_law_spoilt" "_law_spoilt" (defArgs sSpoilt) (defBody sSpoilt) (defScope sSpoilt) .none kV15 dc15 pm15 an15 cd15 ct15), sl15⟩) (co15 : PySem.W.codeIn K cd15 "_law_spoilt" = true) (k15 : PySem.W.keepIn K (.ref f15) = true)
    (a16 : PySem.W.nsIn K mainGlobals "_law_right" = some (some (.ref f16))) (l16 : K.lookup f16 = some ⟨oc16, od16, .func (PySem.W.fnOf "_law_right" "_law_right" (defArgs sRight) (defBody sRight) (defScope sRight) .none kV16 dc16 pm16 an16 (.ref c) ct16), sl16⟩) (co16 : PySem.W.codeIn K (.ref c) "_law_right" = true) (k16 : PySem.W.keepIn K (.ref f16) = true)
    (a17 : PySem.W.nsIn K mainGlobals "law" = some (some (.ref f17))) (l17 : K.lookup f17 = some ⟨oc17, od17, .func (PySem.W.fnOf "law" "law" (defArgs sLaw) (defBody sLaw) (defScope sLaw) .none kV17 dc17 pm17 an17 cd17 ct17), sl17⟩) (co17 : PySem.W.codeIn K cd17 "law" = true) (k17 : PySem.W.keepIn K (.ref f17) = true)
    (z0 : PySem.W.nsIn K mainGlobals "isinstance" = some none)
    (z1 : PySem.W.nsIn K mainGlobals "int" = some none)
    (z2 : PySem.W.nsIn K mainGlobals "bool" = some none)
    (z3 : PySem.W.nsIn K mainGlobals "len" = some none)
    (z4 : PySem.W.nsIn K mainGlobals "range" = some none)
    (z5 : PySem.W.nsIn K mainGlobals "list" = some none)
    (z6 : PySem.W.nsIn K mainGlobals "tuple" = some none)
    (z7 : PySem.W.nsIn K mainGlobals "all" = some none)
    (z8 : PySem.W.nsIn K mainGlobals "sum" = some none)
    (z9 : PySem.W.nsIn K mainGlobals "min" = some none)
    (z10 : PySem.W.nsIn K mainGlobals "ValueError" = some none)
    (z11 : PySem.W.nsIn K mainGlobals "repr" = some none)
    (i0 : PySem.W.nsIn K mainGlobals "STEPS" = some (some (.int 2 tI0)))
    (i1 : PySem.W.nsIn K mainGlobals "MOST_ROUNDS" = some (some (.int 5 tI1)))
    (i2 : PySem.W.nsIn K mainGlobals "MOST_WOVEN" = some (some (.int 3 tI2)))
    (t0 : PySem.W.nsIn K mainGlobals "HANDS" = some (some (.ref hA0))) (u0 : K.lookup hA0 = some ⟨.type "tuple", odH0, .seq (Array.mk [.int 0 tT0_0, .int 1 tT0_1]) nH0, slH0⟩)
    (n0 : PySem.W.nsIn K mainGlobals "AloneError" = some (some (.ref cA)))
    (n1 : PySem.W.nsIn K mainGlobals "NoRounds" = some (some (.ref cR)))
    (n2 : PySem.W.nsIn K mainGlobals "NoInputs" = some (some (.ref cI)))
    (n3 : PySem.W.nsIn K mainGlobals "NoWeaving" = some (some (.ref cW)))
    (n4 : PySem.W.nsIn K mainGlobals "NoKnown" = some (some (.ref cN)))
    (q1 : PySem.W.excIn K cR [.type "ValueError", .type "Exception", .type "BaseException", .type "object"] "ValueError.__new__" = true) (kk1 : PySem.W.keepIn K (.ref cR) = true) (r1 : raiseB K cR = true) (s1 : saidB K cA cR cI cW cN cR 0 = true)
    (q2 : PySem.W.excIn K cI [.type "ValueError", .type "Exception", .type "BaseException", .type "object"] "ValueError.__new__" = true) (kk2 : PySem.W.keepIn K (.ref cI) = true) (r2 : raiseB K cI = true) (s2 : saidB K cA cR cI cW cN cI 1 = true)
    (q3 : PySem.W.excIn K cW [.type "ValueError", .type "Exception", .type "BaseException", .type "object"] "ValueError.__new__" = true) (kk3 : PySem.W.keepIn K (.ref cW) = true) (r3 : raiseB K cW = true) (s3 : saidB K cA cR cI cW cN cW 2 = true)
    (hcx : PySem.W.codeHdIn K c PT = true) (hpx : (K.lookup PT).isNone = true)
    : ∃ (fd : FuncData) (c : Addr), K.lookup PT = none ∧ PySem.W.CodeHd h c PT ∧ (∀ (s : Shared) (v : Value), BindsTo s fd ⟨[v], []⟩ [("_law_script", v)]) ∧ ∀ base : Heap, K.In base → base.Ns mainGlobals mg → TabB base mg c PT → Quiet l.prog w K mg base 9 fa fd ["_law_script"] (spLaw K PT) := by
  have e := hfa.symm.trans (PySem.W.mg_of X G a17)
  cases e
  have F1 := fun_mk (st := sWhole) l1 co1 k1
  have b1 := F1.binds (ps := ["thing"]) fun _ _ _ _ _ _ us hl => match us, hl with | [_], _ => rfl
  have F2 := fun_mk (st := sWithin) l2 co2 k2
  have b2 := F2.binds (ps := ["thing", "least", "most"]) fun _ _ _ _ _ _ us hl => match us, hl with | [_, _, _], _ => rfl
  have F3 := fun_mk (st := sHand) l3 co3 k3
  have b3 := F3.binds (ps := ["thing"]) fun _ _ _ _ _ _ us hl => match us, hl with | [_], _ => rfl
  have F4 := fun_mk (st := sInputs) l4 co4 k4
  have b4 := F4.binds (ps := ["thing"]) fun _ _ _ _ _ _ us hl => match us, hl with | [_], _ => rfl
  have F5 := fun_mk (st := sWeaving) l5 co5 k5
  have b5 := F5.binds (ps := ["thing", "rounds"]) fun _ _ _ _ _ _ us hl => match us, hl with | [_, _], _ => rfl
  have F6 := fun_mk (st := sPut) l6 co6 k6
  have b6 := F6.binds (ps := ["cells", "at"]) fun _ _ _ _ _ _ us hl => match us, hl with | [_, _], _ => rfl
  have F7 := fun_mk (st := sKnown) l7 co7 k7
  have F8 := fun_mk (st := sWeav) l8 co8 k8
  have b8 := F8.binds (ps := ["rounds"]) fun _ _ _ _ _ _ us hl => match us, hl with | [_], _ => rfl
  have F9 := fun_mk (st := sCell) l9 co9 k9
  have b9 := F9.binds (ps := ["_law_script", "_law_k"]) fun _ _ _ _ _ _ us hl => match us, hl with | [_, _], _ => rfl
  have F10 := fun_mk (st := sWell) l10 co10 k10
  have b10 := F10.binds (ps := ["_law_cell"]) fun _ _ _ _ _ _ us hl => match us, hl with | [_], _ => rfl
  have F11 := fun_mk (st := sDraw) l11 co11 k11
  have b11 := F11.binds (ps := ["_law_well_here", "_law_many"]) fun _ _ _ _ _ _ us hl => match us, hl with | [_, _], _ => rfl
  have F12 := fun_mk (st := sOne) l12 co12 k12
  have b12 := F12.binds (ps := ["_law_well_here", "_law_some"]) fun _ _ _ _ _ _ us hl => match us, hl with | [_, _], _ => rfl
  have F13 := fun_mk (st := sLawWeav) l13 co13 k13
  have b13 := F13.binds (ps := ["_law_well_here", "_law_deep", "_law_stops"]) fun _ _ _ _ _ _ us hl => match us, hl with | [_, _, _], _ => rfl
  have F14 := fun_mk (st := sSaid) l14 co14 k14
  have F15 := fun_mk (st := sSpoilt) l15 co15 k15
  have b15 := F15.binds (ps := ["_law_well_here", "_law_weaving_here", "_law_deep"]) fun _ _ _ _ _ _ us hl => match us, hl with | [_, _, _], _ => rfl
  have F16 := fun_mk (st := sRight) l16 co16 k16
  have b16 := F16.binds (ps := ["_law_well_here"]) fun _ _ _ _ _ _ us hl => match us, hl with | [_], _ => rfl
  have F17 := fun_mk (st := sLaw) l17 co17 k17
  have m := fun {n : Str} {v : Value} (e : PySem.W.nsIn K mainGlobals n = some (some v)) => PySem.W.mg_of X G e
  have T : Txt K mg := ⟨PySem.W.mg_none_of X G z0, PySem.W.mg_none_of X G z1, PySem.W.mg_none_of X G z2, PySem.W.mg_none_of X G z3, PySem.W.mg_none_of X G z4, PySem.W.mg_none_of X G z5, PySem.W.mg_none_of X G z6, PySem.W.mg_none_of X G z7, PySem.W.mg_none_of X G z8, PySem.W.mg_none_of X G z9⟩
  have U : Txt2 K mg := ⟨⟨_, m i0⟩, ⟨_, m i1⟩, ⟨_, m t0, fun H => .inr ⟨_, _, _, u0, rfl, rfl, (by show 2 ≤ sizeLine; decide), .cons ⟨_, rfl⟩ (.cons ⟨_, rfl⟩ .nil)⟩⟩⟩
  have TS : SaidT mg cA cR cI cW cN := ⟨PySem.W.mg_none_of X G z0, PySem.W.mg_none_of X G z10, m n0, m n1, m n2, m n3, m n4⟩
  have B7 := kn_binds F7
  have R1 := raiseB_ok (mg := mg) r1 (m n1) q1 kk1
  have R2 := raiseB_ok (mg := mg) r2 (m n2) q2 kk2
  have R3 := raiseB_ok (mg := mg) r3 (m n3) q3 kk3
  refine ⟨PySem.W.fnOf "law" "law" (defArgs sLaw) (defBody sLaw) (defScope sLaw) .none kV17 dc17 pm17 an17 cd17 ct17, c, Option.isNone_iff_eq_none.mp hpx, PySem.W.codeHd_of_K X hcx, fun s v => .of_eq rfl, fun base _ _ TB => ?_⟩
  have e1 : Def l.prog w K mg base "is_whole" ["thing"] 1 (spWholeG K) f1 _ := ⟨ok_wholeG F1 T, b1, k1, m a1⟩
  have e2 : Def l.prog w K mg base "is_whole_within" ["thing", "least", "most"] 2 (spWithinG K) f2 _ := ⟨ok_withinG F2 e1, b2, k2, m a2⟩
  have e3 : Def l.prog w K mg base "is_hand" ["thing"] 3 (spHandG K) f3 _ := ⟨ok_handG F3 e2, b3, k3, m a3⟩
  have e4 : Def l.prog w K mg base "is_inputs" ["thing"] 2 (spInputsG K) f4 _ := ⟨ok_inputsG F4 T e1, b4, k4, m a4⟩
  have e5 : Def l.prog w K mg base "is_weaving" ["thing", "rounds"] 4 (spWeavingG K) f5 _ := ⟨ok_weavingG F5 T U e3, b5, k5, m a5⟩
  have e6 : Def l.prog w K mg base "put_in" ["cells", "at"] 1 (spPut K) f6 _ := ⟨ok_put F6 T, b6, k6, m a6⟩
  have e7 : KDef l.prog w K mg base cR cI cW f7 _ := ⟨ok_knownX F7 T U R1 R2 R3 e2 e4 e5 e6, B7, k7, m a7⟩
  have e8 : VDef l.prog w K mg base cR f8 _ := ⟨ok_weavX F8 ⟨_, m i2⟩ R1 e2, b8, k8, m a8⟩
  have e9 : Def l.prog w K mg base "_law_cell_at" ["_law_script", "_law_k"] 1 (spCell K) f9 _ := ⟨ok_cell F9 T, b9, k9, m a9⟩
  have e10 : Def l.prog w K mg base "_law_well" ["_law_cell"] 1 spWell f10 _ := ⟨ok_well F10 T, b10, k10, m a10⟩
  have g11 := ok_draw (P := l.prog) (w := w) (mg := mg) (base := base) F11
  have e11 : Def l.prog w K mg base "_law_draw" ["_law_well_here", "_law_many"] 1 spDraw2 f11 _ := ⟨weak g11 draw_weak, b11, k11, m a11⟩
  have e12 : Def l.prog w K mg base "_law_one" ["_law_well_here", "_law_some"] 2 spOne2 f12 _ := ⟨weak (ok_one F12 T g11 b11 k11 (m a11)) one_weak, b12, k12, m a12⟩
  have e13 : Def l.prog w K mg base "_law_weaving" ["_law_well_here", "_law_deep", "_law_stops"] 3 spLW f13 _ := ⟨ok_lw F13 T e11 e12, b13, k13, m a13⟩
  have e14 : SDef K mg f14 := ⟨m a14, k14, _, _, _, _, _, _, _, _, _, l14, co14⟩
  have e15 : Def l.prog w K mg base "_law_spoilt" ["_law_well_here", "_law_weaving_here", "_law_deep"] 3 (spSpoilt K) f15 _ := ⟨ok_spoilt F15 T e11 e12, b15, k15, m a15⟩
  have G16 := ok_right (P := l.prog) (w := w) (base := base) l16 co16 T (PySem.W.mg_none_of X G z11) e11 e12 e13 e15 e7 e8 e14 TS TB (saidB_ok s1) (saidB_ok s2) (saidB_ok s3)
  exact ok_law F17 e9 e10 G16 b16 k16 (m a16)
theorem walk {l : PySem.W.OpenLaw} {q : Program} {loose : List Str} {XP : (Str → Option Value) → Heap → Prop} {YP : World → Heap → Prop} {d : DefRec} {K : Params → PySem.W.Frag} (PT : Addr) (hn : l.most = some 63) (hdf : d.params.defaults = []) (hY : ∀ (w : World) (h : Heap), YP w h → (K w.params).In h)
    (hT : ∀ (w : World) (h : Heap), YP w h → h.get? PT = some { cls := .none, data := .fields #[] })
    (F : ∀ (w : World) (mg : Str → Option Value) (fa : Addr) (h : Heap), (K w.params).In h → h.Ns mainGlobals mg → mg d.name = some (.ref fa) →
      ∃ (fd : FuncData) (c : Addr), (K w.params).lookup PT = none ∧ PySem.W.CodeHd h c PT ∧ (∀ (s : Shared) (v : Value), BindsTo s fd ⟨[v], []⟩ [("_law_script", v)]) ∧ ∀ base : Heap, (K w.params).In base → base.Ns mainGlobals mg → TabB base mg c PT → Quiet l.prog w (K w.params) mg base 9 fa fd ["_law_script"] (spLaw (K w.params) PT)) :
    PySem.W.WalkO q loose XP YP l.row.toRowW d [] (fun f vs => PySem.call f vs) := by
  refine Att.attach_callB hn hdf fun w s₀ s mg mb fa o pm cd doc a vs ns G Y ho hd hcd hmg hobj hints hlen hbits hg => ?_
  have KX := hY w _ Y
  obtain ⟨fd, c, nT, C, hb, hF⟩ := F w mg fa _ KX G.T.g hmg
  exact quiet_end KX G.T.g G.T.b G.T.builtins G.T.nolimit hg (hT w _ Y) nT C G.T.bmain hobj hints (Nat.le_trans hlen (by decide)) ⟨rfl, by decide, by decide⟩ hF hb fun H hH hS => ⟨a, ns, rfl, hS, hlen, fun p hp => by
    rw [List.mem_singleton.mp hp]
    exact TabS.nil hH, fun _ => rfl⟩
end TA
open PySem PySem.W PyProof.Rows
set_option maxRecDepth 100000 in
set_option maxHeartbeats 0 in
theorem PySem.Challenge.cw_twoalone_k12_known_refused_holds : PySem.Challenge.rw_twoalone_k12_known_refused.Holds := by
  w_on; o_law; k_head; (case hw => w_witness2)
  k_fill
  refine TA.walk (l := PySem.Challenge.rw_twoalone_k12_known_refused) 173 rfl rfl (fun w h Y => km_in_of Y) (fun w h Y => ?T) ?F
  case T => exact km_tabs_of Y _ List.mem_cons_self
  case F =>
    intro w mg fa h KX G hmg
    refine' TA.all_mk KX G hmg ?a1 ?l1 ?co1 ?k1 ?a2 ?l2 ?co2 ?k2 ?a3 ?l3 ?co3 ?k3 ?a4 ?l4 ?co4 ?k4 ?a5 ?l5 ?co5 ?k5 ?a6 ?l6 ?co6 ?k6 ?a7 ?l7 ?co7 ?k7 ?a8 ?l8 ?co8 ?k8 ?a9 ?l9 ?co9 ?k9 ?a10 ?l10 ?co10 ?k10 ?a11 ?l11 ?co11 ?k11 ?a12 ?l12 ?co12 ?k12 ?a13 ?l13 ?co13 ?k13 ?a14 ?l14 ?co14 ?k14 ?a15 ?l15 ?co15 ?k15 ?a16 ?l16 ?co16 ?k16 ?a17 ?l17 ?co17 ?k17 ?z0 ?z1 ?z2 ?z3 ?z4 ?z5 ?z6 ?z7 ?z8 ?z9 ?z10 ?z11 ?i0 ?i1 ?i2 ?t0 ?u0 ?n0 ?n1 ?n2 ?n3 ?n4 ?q1 ?kk1 ?r1 ?s1 ?q2 ?kk2 ?r2 ?s2 ?q3 ?kk3 ?r3 ?s3 ?hcx ?hpx
    (case a1 => k_is); (case l1 => k_is); (case co1 => k_is); (case k1 => k_is); (case a2 => k_is); (case l2 => k_is); (case co2 => k_is); (case k2 => k_is); (case a3 => k_is); (case l3 => k_is); (case co3 => k_is); (case k3 => k_is); (case a4 => k_is); (case l4 => k_is); (case co4 => k_is); (case k4 => k_is); (case a5 => k_is); (case l5 => k_is); (case co5 => k_is); (case k5 => k_is); (case a6 => k_is); (case l6 => k_is); (case co6 => k_is); (case k6 => k_is); (case a7 => k_is); (case l7 => k_is); (case co7 => k_is); (case k7 => k_is); (case a8 => k_is); (case l8 => k_is); (case co8 => k_is); (case k8 => k_is); (case a9 => k_is); (case l9 => k_is); (case co9 => k_is); (case k9 => k_is); (case a10 => k_is); (case l10 => k_is); (case co10 => k_is); (case k10 => k_is); (case a11 => k_is); (case l11 => k_is); (case co11 => k_is); (case k11 => k_is); (case a12 => k_is); (case l12 => k_is); (case co12 => k_is); (case k12 => k_is); (case a13 => k_is); (case l13 => k_is); (case co13 => k_is); (case k13 => k_is); (case a14 => k_is); (case l14 => k_is); (case co14 => k_is); (case k14 => k_is); (case a15 => k_is); (case l15 => k_is); (case co15 => k_is); (case k15 => k_is); (case a16 => k_is); (case l16 => k_is); (case co16 => k_is); (case k16 => k_is); (case a17 => k_is); (case l17 => k_is); (case co17 => k_is); (case k17 => k_is); (case z0 => k_is); (case z1 => k_is); (case z2 => k_is); (case z3 => k_is); (case z4 => k_is); (case z5 => k_is); (case z6 => k_is); (case z7 => k_is); (case z8 => k_is); (case z9 => k_is); (case z10 => k_is); (case z11 => k_is); (case i0 => k_is); (case i1 => k_is); (case i2 => k_is); (case t0 => k_is); (case u0 => k_is); (case n0 => k_is); (case n1 => k_is); (case n2 => k_is); (case n3 => k_is); (case n4 => k_is); (case q1 => k_exc); (case kk1 => k_is); (case r1 => kernel_rfl); (case s1 => kernel_rfl); (case q2 => k_exc); (case kk2 => k_is); (case r2 => kernel_rfl); (case s2 => kernel_rfl); (case q3 => k_exc); (case kk3 => k_is); (case r3 => kernel_rfl); (case s3 => kernel_rfl); (case hcx => kernel_rfl); (case hpx => kernel_rfl)
