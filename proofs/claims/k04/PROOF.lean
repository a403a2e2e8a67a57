import PyProof.Rows.All
import Wide.All
import OpenK.AllK
import Wide.FinOn
import HandS.ForMost
import HandS.IsInst
import HandS.DictTup
import HandS.Conv
import HandS.TupSets
import HandS.Walk
import HandS.SetBool
import HandS.DictComp
import HandS.Strs
import HandS.SetFor
import KE.KDictCopyH
import KE.KDictDisplayH
import PyProof.ReprRoads
import PyProof.CallFns
import PyProof.ReprLen
import KE.DataFind
import HandS.Lambda
import HandS.EndTab
import KE.KDictOf
import PyProof.DictMoreH
import PyProof.DictFindH
import PyProof.P3Eq
import HandS.TupLen
import HandS.DictEq
import HandS.ListEq
import HandS.OwnEq
import HandS.Defaults
import HandS.MakeKwOnly
import KE.KDictPairs
import HandS.Style
import HandS.Deep
import HandS.NoneIn
import KE.KDictWalk
import HandS.SortRule
import HandS.SortOrd
import HandS.Wide
import HandS.ExcIs
import HandS.ForExc
import HandS.More
import HandS.EndBits
import KE.KNestM
import PySem.Challenge.RW_twoalone_k04_tasks_and_boxes_by_names
set_option Elab.async false
set_option maxRecDepth 100000
set_option maxHeartbeats 4000000
namespace L2
open PySem PySem.Spec PyProof.Rows
set_option linter.unusedVariables false
/-! dicts with tuple keys: their items walked, their keys sorted -/
section
variable {X : Cx} {pins : List (Addr × Obj)} {σ : St} {H : Hp} {s : Shared} {d : Addr} {o : Obj}
/-- a locked dict of tuple keys as it lies: its entries, the keys' tuples, the values -/
theorem Inv.entriesT {kvs : List (List Key × V)} (I : Inv X pins σ H s) (locked : H d = some (.frz o (.dT kvs))) :
    (d == sysModules) = false ∧ ∃ (es : Array DictEntry) (ep : Nat), o.data = .dict es ep ∧ DT.Raw s.heap d es ep ∧ es.size = kvs.length ∧
      ∀ (i : Nat) (k : List Key) (v : V), kvs[i]? = some (k, v) → ∃ (hi : i < es.size) (q : Addr), es[i].key = .ref q ∧ H q = some (.tup (k.map kV)) ∧ RelV v es[i].val := by
  obtain ⟨there, _, notSys, xs, pairs, o', es, ep, found, exact', data, rows, _⟩ := I.hok d _ locked
  rw [there] at found
  cases found
  have sizes : es.size = kvs.length := (size_of_entries rows).trans (Paired.length pairs).symm
  refine ⟨notSys, es, ep, data, ⟨o, there, exact', data⟩, sizes, fun i k v e => ?_⟩
  obtain ⟨b, hb, e1, e2, e3⟩ := paired_get pairs e
  have hi : i < es.size := by rw [sizes]; exact (List.getElem?_eq_some_iff.mp e).1
  have q := entry_at rows i
  rw [hb, Array.getElem?_eq_getElem hi] at q
  have q' : es[i] = entryOfKey (tupleKind (mixKind X.prog X.w)) b := Option.some.inj q
  exact ⟨hi, b.2.1, by rw [q']; rfl, e2, by rw [q']; exact e3⟩
end
/-- the items of the locked dict at d: each a new pair of the key's own tuple and the value -/
def Itit (d : Addr) (o : Obj) (kvs : List (List Key × V)) : It :=
  ⟨fun i H => H d = some (.frz o (.dT kvs)) ∧ i < kvs.length,
   fun i H x H' => ∃ (T q : Addr) (k : List Key) (v : V), kvs[i]? = some (k, v) ∧ H q = some (.tup (k.map kV)) ∧ x = .ref T ∧ H T = none ∧ H' = upd H T (.tup [.ref q, v]),
   fun i H => H d = some (.frz o (.dT kvs)) ∧ kvs.length ≤ i⟩
theorem turn_itemsT {P : Program} {w : World} {K : PySem.W.Frag} {d : Addr} {o : Obj} {es : Array DictEntry} {ep : Nat} {kvs : List (List Key × V)} {elts : List Expr} {kk : Nat} {tpos : Pos} (it : Addr) (hod : o.data = .dict es ep) :
    Turn P w K (.Tuple elts kk tpos) (Itit d o kvs) [it] it (fun i h => ∃ ok ov, IsItemIter h it d i kvs.length ep ok ov) where
  mem := by simp
  obj := fun i h ⟨ok, ov, e⟩ b hb => by
    rw [List.mem_singleton.mp hb]
    exact ⟨_, e, fun v z => nomatch z⟩
  keep := fun i h h' ⟨ok, ov, e⟩ k => ⟨ok, ov, k it (by simp) _ e⟩
  item := by
    rintro X rfl rfl rfl hc i pins s σ H E I hf ⟨ok, ov, he⟩ ⟨hd, hi⟩
    obtain ⟨_, es', ep', hdt, raw, hsz, ent⟩ := I.entriesT hd
    obtain ⟨rfl, rfl⟩ := dict_ep hod hdt
    obtain ⟨⟨k, v⟩, hkv⟩ : ∃ p, kvs[i]? = some p := ⟨kvs[i], List.getElem?_eq_getElem hi⟩
    obtain ⟨hi', q, hkey, hq, rv⟩ := ent i k v hkv
    rw [← hsz] at he
    have hlt : it < s.heap.objs.size := Heap.lt_size he
    refine DT.nextI he raw hi' fun h' out laid grown kept => ?_
    refine ⟨_, rfl, wpAny_letOwnedTupleGo_items (s := { s with heap := h' }) out fun h'' he' sb => ?_⟩
    have laid2 : h''.get? s.heap.objs.size = some { cls := .type "tuple", data := .seq #[es'[i].key, es'[i].val] } := (sb.2 _ (Nat.ne_of_gt hlt)).trans laid
    have pair : ObjOk X.prog X.w (upd H s.heap.objs.size (.tup [.ref q, v])) h'' s.heap.objs.size (.tup [.ref q, v]) :=
      ⟨by show 2 ≤ sizeLine; decide, [es'[i].key, es'[i].val], .cons hkey (.cons rv .nil), ⟨_, laid2, rfl, _, rfl⟩⟩
    have I1 : Inv X pins σ (upd H s.heap.objs.size (.tup [.ref q, v])) { s with heap := h'' } :=
      I.turnedNew (t' := s.toks) (ch := [it]) (fun b ob hb e => (sb.2 b (fun z => hb (List.mem_singleton.mpr z))).trans (kept b ob (fun z => hb (List.mem_singleton.mpr z)) e)) hf (Nat.le_refl _) pair
    refine ⟨.ref s.heap.objs.size, _, I1, rfl, ⟨_, q, k, v, hkv, hq, rfl, I.hok.fresh (Nat.le_refl _), rfl⟩, ⟨es'[i].key, es'[i].val, by rw [← hsz]; exact he'⟩, fun b hb => ?_⟩
    rw [List.mem_singleton.mp hb, upd_ne (Nat.ne_of_lt hlt)]
    exact (hf it (by simp)).1
  done := by
    rintro X rfl rfl rfl hc i pins s σ H E I hf ⟨ok, ov, he⟩ ⟨hd, hi⟩
    obtain ⟨f0, f1, f2, f3, f4, f5⟩ := hf it (by simp)
    obtain ⟨_, es', ep', hdt, raw, hsz, ent⟩ := I.entriesT hd
    obtain ⟨rfl, rfl⟩ := dict_ep hod hdt
    rw [← hsz] at he
    exact DT.endI (I.ok.hd hc) he raw (by omega) fun h' eb => ⟨rfl, I.turned (t' := s.toks) (fun b ob hb e => eb b ob hb e) f0 f1 f3 f4 f5⟩
  self := fun A i s Q E ⟨_, _, e⟩ h => PySem.W.kcp_self e h
/-- for a, b in e.items(): e a locked dict of tuple keys -/
def iItemsT (td : TE) : TI := fun σ H R => td σ H fun x H1 => ∃ d o kvs, x = .ref d ∧ H1 d = some (.frz o (.dT kvs)) ∧ R (Itit d o kvs) H1
theorem pi_itemsT {X : Cx} {e : Expr} {td : TE} {apos cpos : Pos} {elts : List Expr} {kk : Nat} {tpos : Pos} (he : PE X e td) (hbase : attributeBase e "items" X.env (eval e X.env) = eval e X.env := by rfl) (hline : (apos.endLine == cpos.line) = true := by rfl) :
    PI X (.Tuple elts kk tpos) (.Call (.Attribute e "items" apos) [] [] cpos) (iItemsT td) := by
  refine ⟨fun pins s σ H R I h => ?_⟩
  refine wpAny_Call_method (T := "dict") (id := "dict.items") hbase rfl hline F.plainAttrs_dict F.slot_dict_items F.type_dict_items (thn (he.run pins s σ H _ I h) fun u s1 ⟨x, H1, I1, rx, d, o, kvs, ex, hd, q⟩ => ?_)
  subst ex
  obtain rfl : u = Value.ref d := rx
  obtain ⟨notSys, es, ep, hdt, raw, hsz, ent⟩ := I1.entriesT hd
  refine ⟨raw.typeIs, fun b z => ?_, ?_⟩
  · cases z
    obtain ⟨ob, h1, h2, h3⟩ := raw
    exact ⟨ob, h1, h2.2.1⟩
  have I2 : Inv X pins σ H1 { s1 with heap := s1.heap.push { cls := .type "dict_items", data := .fields #[.ref d] } } := I1.kept (t' := s1.toks) fun b ob q => Heap.get?_push_of_some _ q
  have walk : wpAny (model X.prog X.w) X.A (pyIter (.ref s1.heap.objs.size)) (PIE X pins σ (.Tuple elts kk tpos) R) X.xe { s1 with heap := s1.heap.push { cls := .type "dict_items", data := .fields #[.ref d] } } := by
    refine DT.iterI (d := d) ⟨_, Heap.get?_push_size _ rfl, rfl, rfl⟩ (raw.push _) (pi_one (tk := s1.toks) I2 _ (turn_itemsT _ hdt) ⟨.none, .none, ?_⟩ q)
    rw [← hsz]
    exact Heap.get?_push_size _ rfl
  show wpAny _ _ (callWith cpos (.builtin "dict.items") [.ref d] [] []) _ X.xe s1
  exact method_meetsIn F.slot_dict_items F.entry_dict_items rfl (PySem.evalArgs_none ⟨rfl, raw.typeIs, F.args_dict_items_1 _, _, DT.meetsItems (es := es) (ep := ep) notSys, raw, walk⟩)
end L2

set_option Elab.async false
set_option maxRecDepth 100000
set_option maxHeartbeats 4000000
namespace L2
open PySem PySem.Spec PyProof.Rows
set_option linter.unusedVariables false
/-! one core for comprehensions that gather into any thing: what is laid first, and what a turn adds, are parameters -/
section
variable {X : Cx}
/-- the walk of a comprehension that gathers at D: o0 is what stands there first; add says what one turn does to it -/
def tGather (o0 : Addr → HO) (wi : TI) (g : TG) (tt : TT) (add : Addr → St → Hp → (Hp → Prop) → Prop) (vs : List Nat) : TE := fun σ H Q =>
  wi σ H fun J H1 => ∀ D, H1 D = none → ∃ W : Nat → Nat → Hp → Prop, (∃ m, W 0 m (upd H1 D (o0 D))) ∧ ∀ i m H, W i m H →
    (J.stop i H ∧ Q (.ref D) H) ∨
    (J.go i H ∧ ∃ Nx : Hp → Prop, (∀ H', Nx H' → ∃ m', m' < m ∧ W (i + 1) m' H') ∧
      ∀ x H', J.yld i H x H' → g x (wipe σ vs) H' fun σ2 H2 => wipe σ2 vs = wipe σ vs ∧ tt σ2 H2 fun b H3 => if b = true then add D σ2 H3 Nx else Nx H3)
/-- one turn as the machine does it: the next thing, the target, the tests, then Body or the way back -/
def TurnIs (P : Program) (w : World) (A : Around) (target iter : Expr) (ifs : List Expr) (it : Value) (env : Env) (R : Result → Shared → Prop) (Body : (Shared → Prop) → Shared → Prop) (back : Shared → Prop) (s : Shared) : Prop :=
  wpAny (model P w) A (pyNext it) (fun r s₁ => match r with
    | none => R (.ok .next) s₁
    | some v => wpAny (model P w) A (letOwnedTupleGo target it v) (fun _ s₁' =>
        wpAny (model P w) A (assign target env v) (fun _ s₂ =>
          wpAny (model P w) A (forIn ifs true fun c r => if r = true then do let ok ← isTrue c env (eval c env); pure (ForInStep.yield ok) else pure (ForInStep.yield r))
            (fun ok s₃ => if ok = true then Body back s₃ else back s₃) (notedBy (model P w) A env fun e s' => R (.error e) s') s₂)
          (notedBy (model P w) A env fun e s' => R (.error e) s') s₁')
        (notedBy (model P w) A env fun e s' => R (.error e) s') s₁)
    (notedBy (model P w) A env fun e s' => R (.error e) s') s
variable {pins : List (Addr × Obj)} {s : Shared} {σ : L2.St} {H : Hp} {Q : VK} {node tg iter : Expr} {ifs : List Expr} {scope : Scope} {own : List (PySem.Str × Nat)} {pos' : Pos} {wi : TI} {g : TG} {tt : TT}
  {add : Addr → L2.St → Hp → (Hp → Prop) → Prop} {o0 : Addr → HO} {ob : Obj} {mk : Sem Value} {use : Option (Value → Sem Unit)} {Qf : Value → Shared → Prop} {Body : Value → Env → (Result → Shared → Prop) → (Shared → Prop) → Shared → Prop}
theorem gather_core (hc : X.calm = true) (hN : X.N.Nodup) (I : Inv X pins σ H s) (hi : PI X tg iter wi) (ok : BlkOk X.N X.env.scope scope own) (hcl : clausesOf node = [⟨tg, iter, ifs, 0⟩])
    (hmk : ∀ (A : Around) (E : Value → Shared → Prop) (s : Shared) (Q : Value → Shared → Prop), Q (.ref s.heap.objs.size) { s with heap := s.heap.push ob } → wpAny (model X.prog X.w) A mk Q E s)
    (hob : ∀ (h : Heap) (H : Hp), sysModules < h.objs.size → ObjOk X.prog X.w H (h.push ob) h.objs.size (o0 h.objs.size))
    (hloop : ∀ (it : Value) (D : Addr) (env : Env) (R : Result → Shared → Prop) (I : Nat → Shared → Prop), (∀ n s, I n s → TurnIs X.prog X.w X.A tg iter ifs it env R (Body (.ref D) env R) (fun s' => ∃ m, m < n ∧ I m s') s) →
      ∀ n s, I n s → codeAny (model X.prog X.w) X.A (.compLoop node 0 it (.ref D) env) R s)
    (hstart : ∀ (it acc : Value) (env : Env) (R : Result → Shared → Prop) (s : Shared), codeAny (model X.prog X.w) X.A (.compLoop node 0 it acc env) R s →
      wpAny (model X.prog X.w) X.A (pyIter it) (fun it' s' => codeAny (model X.prog X.w) X.A (.compLoop node 0 it' acc env) R s') (notedBy (model X.prog X.w) X.A env fun x s' => R (.error x) s') s →
      codeAny (model X.prog X.w) X.A (.compStart node 0 it acc env) R s)
    (hg : ∀ (s : Shared) (H : Hp) (C : Addr) (cl : List (PySem.Str × Addr)) (fp : List Addr), PG (X.blk s H scope (compEnvC scope cl C X.env) fp) tg g)
    (ht : ∀ (s : Shared) (H : Hp) (C : Addr) (cl : List (PySem.Str × Addr)) (fp : List Addr), PTs (X.blk s H scope (compEnvC scope cl C X.env) fp) ifs tt)
    (hadd : ∀ (s : Shared) (H : Hp) (C : Addr) (cl : List (PySem.Str × Addr)) (fp : List Addr) (D : Addr) (R : Result → Shared → Prop) (Nx : Hp → Prop) (back : Shared → Prop) (pins' : List (Addr × Obj)) (σ2 : L2.St) (H3 : Hp) (s3 : Shared),
      Inv (X.blk s H scope (compEnvC scope cl C X.env) fp) pins' σ2 H3 s3 → add D σ2 H3 Nx → (∀ s' H', Inv (X.blk s H scope (compEnvC scope cl C X.env) fp) pins' σ2 H' s' → Nx H' → back s') → Body (.ref D) (compEnvC scope cl C X.env) R back s3)
    (hs : ∀ x, foldedSetIterable iter X.env x = pure x) (h : tGather o0 wi g tt add (own.map (·.2)) σ H Q)
    (hRR : ∀ D C s' m H', Inv X pins σ H' s' → Q (.ref D) H' → s'.heap.Ns C m → FpOk X pins H' C → compPost (model X.prog X.w) X.A X.xe use Qf (.ref D) C (.ok .next) s') :
    wpAny (model X.prog X.w) X.A (comprehension node scope X.env pos' mk false (eval iter X.env) use) Qf X.xe s := by
  have free : ∀ y ∈ scope.names, y.2 = .free → ∃ c, X.env.cells.lookup y.1 = some c := fun y hy e => (ok.free y hy e).elim (fun k => I.ok.has _ (.inl k)) (fun k => I.ok.has _ (.inr k))
  refine wpAny_comprehension_free (use := use) hcl hs (closure_ok free) ok.kind (fun y hy e => by rw [ok.uniq y hy, e]) (thn (hi.run pins s σ H _ I h) fun xv s1 hx => thn hx fun itv s2 h2 => ?_)
  obtain ⟨it, fp, tn, J, H2, e, I2, T, st2, f2, q⟩ := h2
  subst e
  refine hmk _ _ _ _ (newEnv_comp ?_)
  obtain ⟨W, ⟨m0, w0⟩, turn⟩ := q s2.heap.objs.size (I2.hok.fresh (Nat.le_refl _))
  have I3 : Inv X pins σ (upd H2 s2.heap.objs.size (o0 s2.heap.objs.size)) ({ s2 with heap := s2.heap.push ob } : Shared) :=
    I2.laid (t' := s2.toks) (fun b o e => Heap.get?_push_of_some _ e) (Nat.le_refl _) (hob _ _ I2.big)
  have f3 : ∀ b ∈ fp, FpOk X pins (upd H2 s2.heap.objs.size (o0 s2.heap.objs.size)) b ∧ b < (s2.heap.push ob).objs.size := fun b hb => by
    obtain ⟨o, e, _⟩ := T.obj _ _ st2 b hb
    have lt := Heap.lt_size e
    exact ⟨⟨by rw [upd_ne (Nat.ne_of_lt lt)]; exact (f2 b hb).1, (f2 b hb).2⟩, by rw [Heap.size_push]; exact Nat.lt_succ_of_lt lt⟩
  have st3 : tn 0 (s2.heap.push ob) := T.keep _ _ _ st2 fun b _ o e => Heap.get?_push_of_some _ e
  generalize hD : s2.heap.objs.size = D at I3 w0 turn f3 ⊢
  generalize hs3 : ({ s2 with heap := s2.heap.push ob } : Shared) = s3 at I3 ⊢
  have h3 : s3.heap = s2.heap.push ob := by rw [← hs3]
  rw [← h3] at f3 st3
  generalize upd H2 D (o0 D) = H3 at I3 w0 f3
  have I4 := block_start I3 ok hN f3
  have pg := hg s3 H3 s3.heap.objs.size (cellsFrom (s3.heap.objs.size + 1) scope.names (cloFrom X.env.cells scope.names [])) fp
  have pt := ht s3 H3 s3.heap.objs.size (cellsFrom (s3.heap.objs.size + 1) scope.names (cloFrom X.env.cells scope.names [])) fp
  have pa := hadd s3 H3 s3.heap.objs.size (cellsFrom (s3.heap.objs.size + 1) scope.names (cloFrom X.env.cells scope.names [])) fp
  show codeAny _ _ (.compStart node 0 (.ref it) (.ref D) (compEnvC scope (cellsFrom (s3.heap.objs.size + 1) scope.names (cloFrom X.env.cells scope.names [])) s3.heap.objs.size X.env)) (compPost (model X.prog X.w) X.A X.xe use Qf (.ref D) s3.heap.objs.size) { s3 with heap := pushCells (s3.heap.push { cls := .type "dict", data := .dict #[] }) scope.names }
  generalize hce : compEnvC scope (cellsFrom (s3.heap.objs.size + 1) scope.names (cloFrom X.env.cells scope.names [])) s3.heap.objs.size X.env = ce at I4 pg pt pa ⊢
  have cL : ce.locals = s3.heap.objs.size := by subst hce; rfl
  generalize hs4 : ({ s3 with heap := pushCells (s3.heap.push { cls := .type "dict", data := .dict #[] }) scope.names } : Shared) = s4 at I4 ⊢
  have st4 : tn 0 s4.heap := T.keep _ _ _ st3 fun b _ o e => by rw [← hs4]; exact pushCells_keeps _ _ _ _ (Heap.get?_push_of_some _ e)
  have still : ∀ {σ' : L2.St} {H' : Hp} {s' : Shared}, Inv (X.blk s3 H3 scope ce fp) [] σ' H' s' → (∀ b ∈ fp, H' b = none) → ∀ b ∈ fp, FpOk (X.blk s3 H3 scope ce fp) [] H' b := fun I' hn b hb =>
    ⟨hn b hb, (I'.ok.exf b hb).1, I'.ok.exfs b hb, .inl hb, fun x c e => (I'.ok.exf b hb).2 x c e, fun p hp => absurd (show p ∈ ([] : List (Addr × Obj)) ++ [] from hp) (by simp)⟩
  have loop := hloop (.ref it) D ce (compPost (model X.prog X.w) X.A X.xe use Qf (.ref D) s3.heap.objs.size)
    (fun n s' => ∃ i H', Inv (X.blk s3 H3 scope ce fp) [] (wipe σ (own.map (·.2))) H' s' ∧ tn i s'.heap ∧ (∀ b ∈ fp, H' b = none) ∧ W i n H') ?_ m0 s4 ⟨0, H3, I4, st4, fun b hb => (f3 b hb).1.1, w0⟩
  · exact hstart _ _ _ _ _ loop (T.self X.A 0 _ _ _ st4 loop)
  rintro n s5 ⟨i, H5, I5, st5, n5, w5⟩
  rcases turn i n H5 w5 with ⟨stop, qq⟩ | ⟨go, Nx, hNx, step⟩
  · refine thnF (T.done (X.blk s3 H3 scope ce fp) rfl rfl rfl hc i [] s5 _ H5 (fun _ _ => False) I5 (still I5 n5) st5 stop) fun r s6 ⟨hr, I6⟩ => ?_
    subst hr
    have I7 : Inv X pins σ H5 s6 := I3.call' (ch := fp) I6.os I6.base I6.hok I6.bare fun b hb => ⟨(f3 b hb).1.2.2.2.1, (f3 b hb).1.2.1, (f3 b hb).1.2.2.2.2.1, (f3 b hb).1.2.2.2.2.2⟩
    have nC : H5 s3.heap.objs.size = none := by
      have z : H5 ce.locals = none := I6.free
      rwa [cL] at z
    obtain ⟨m, hn, _⟩ := I6.loc
    have hn : s6.heap.Ns ce.locals m := hn
    rw [cL] at hn
    exact hRR D s3.heap.objs.size s6 m H5 I7 qq hn (I3.fpOk (Nat.le_refl _) nC)
  · refine thnF (T.item (X.blk s3 H3 scope ce fp) rfl rfl rfl hc i [] s5 _ H5 (fun _ _ => False) I5 (still I5 n5) st5 go) fun r s6 ⟨u, hr, h6⟩ => ?_
    subst hr
    refine thnF h6 fun _ s7 ⟨x, H7, I7, r7, y7, st7, n7⟩ => ?_
    refine thnF (pg.run _ s7 _ H7 x u _ (I7.pinned (still I7 n7) (T.obj _ _ st7)) r7 (step x H7 y7)) fun _ s8 ⟨σ8, H8, I8, hw8, q8⟩ => ?_
    refine thnF (pt.run _ s8 σ8 H8 _ I8 q8) fun b s9 ⟨H9, I9, q9⟩ => ?_
    have again : ∀ (s' : Shared) (H' : Hp), Inv (X.blk s3 H3 scope ce fp) ([] ++ pinsAt fp s7.heap) σ8 H' s' → Nx H' → ∃ m, m < n ∧ ∃ i H', Inv (X.blk s3 H3 scope ce fp) [] (wipe σ (own.map (·.2))) H' s' ∧ tn i s'.heap ∧ (∀ b ∈ fp, H' b = none) ∧ W i m H' := fun s' H' I' nx => by
      obtain ⟨m', hm, w'⟩ := hNx H' nx
      have stands : ∀ b ∈ fp, ∀ o, s7.heap.get? b = some o → s'.heap.get? b = some o ∧ H' b = none := fun b hb o e =>
        let z := I'.pin (b, o) (List.mem_append_right _ (List.mem_append_right _ (mem_pinsAt hb e)))
        ⟨z.1, z.2.1⟩
      refine ⟨m', hm, i + 1, H', (I'.unpinned (pins := [])).weak (by rw [← hw8, wipe_length]) (fun j v e => ?_), T.keep _ _ _ st7 fun b hb o e => (stands b hb o e).1, fun b hb => ?_, w'⟩
      · rw [← hw8] at e
        exact (wipe_some e).1
      · obtain ⟨o, e, _⟩ := T.obj _ _ st7 b hb
        exact (stands b hb o e).2
    cases b with
    | false => exact again s9 H9 I9 q9
    | true => exact pa D _ Nx _ _ σ8 H9 s9 I9 q9 again
end
end L2

set_option Elab.async false
set_option maxRecDepth 100000
set_option maxHeartbeats 4000000
namespace L2
open PySem PySem.Spec PyProof.Rows PpSet
set_option linter.unusedVariables false
/-! the core taken twice: sets of ints, dicts with tuple keys; len of a set -/
/-- a set as it is made -/
abbrev bareSet (w : World) : Obj := { cls := .type "set", dict := none, data := .set #[] 0 (.fresh 0 0 (!w.params.followText "set-order")) }
section
variable {X : Cx}
/-- a turn of {e for ..}, e an int -/
def addI (w : World) (te : TE) : Addr → L2.St → Hp → (Hp → Prop) → Prop := fun D σ H Nx => te σ H fun y H1 => ∃ (k : Int) (S : Int → Bool) (n : Nat), y = .int k ∧ H1 D = some (SetO w D S n) ∧ n + 1 < scanBound ∧
  Nx (upd H1 D (SetO w D (fun j => S j || decide (j = k)) (if S k = true then n else n + 1)))
theorem pe_scI {elt tg iter : Expr} {ifs : List Expr} {scope : Scope} {own : List (PySem.Str × Nat)} {pos : Pos} {wi : TI} {g : TG} {tt : TT} {te : TE} (hc : X.calm = true) (hN : X.N.Nodup) (hi : PI X tg iter wi) (ok : BlkOk X.N X.env.scope scope own)
    (hg : ∀ (s : Shared) (H : Hp) (C : Addr) (cl : List (PySem.Str × Addr)) (fp : List Addr), PG (X.blk s H scope (compEnvC scope cl C X.env) fp) tg g)
    (ht : ∀ (s : Shared) (H : Hp) (C : Addr) (cl : List (PySem.Str × Addr)) (fp : List Addr), PTs (X.blk s H scope (compEnvC scope cl C X.env) fp) ifs tt)
    (he : ∀ (s : Shared) (H : Hp) (C : Addr) (cl : List (PySem.Str × Addr)) (fp : List Addr), PE (X.blk s H scope (compEnvC scope cl C X.env) fp) elt te)
    (hs : ∀ x, foldedSetIterable iter X.env x = pure x := by intro _; rfl) :
    PE X (.SetComp elt [⟨tg, iter, ifs, 0⟩] scope pos) (tGather (fun D => SetO X.w D (fun _ => false) 0) wi g tt (addI X.w te) (own.map (·.2))) := by
  refine ⟨fun pins s σ H Q I h => ?_⟩
  rw [eval_SetComp]
  refine gather_core (ob := bareSet X.w) (mk := newSet (.type "set")) (o0 := fun D => SetO X.w D (fun _ => false) 0) (add := addI X.w te)
    (Body := fun acc env R back s => wpAny (model X.prog X.w) X.A (eval elt env) (fun x s4 => wpAny (model X.prog X.w) X.A (call (.builtin "set.add") [acc, x]) (fun _ s5 => back s5) (notedBy (model X.prog X.w) X.A env fun e s' => R (.error e) s') s4)
      (notedBy (model X.prog X.w) X.A env fun e s' => R (.error e) s') s)
    hc hN I hi ok rfl (fun A E s Q q => newSet_ok q) (fun h H hb => setO_new (setR_fresh X.w)) (fun it D env R I turn n s => compLoopS_any I turn n) (fun it acc env R s a b => codeAny_compStart_set a b) hg ht ?_ hs h ?_
  · intro s H C cl fp D R Nx back pins' σ2 H3 s3 I3 q3 k
    refine thnF ((he s H C cl fp).run _ s3 σ2 H3 _ I3 q3) fun z s4 ⟨yv, H4, I4, r4, n, S, m, ey, hD, room, nx⟩ => ?_
    subst ey
    obtain ⟨tk, rfl⟩ := r4
    refine setR_add (setO_get (X := X.blk s H scope (compEnvC scope cl C X.env) fp) I4 hD) room fun h' sb new => k _ _ (I4.write (e := D) (t' := s4.toks + 1) (by rw [hD]; trivial) (.inl rfl) (fun b u hb hu => (sb.2 b hb).trans hu) ?_ (setO_new new)) nx
    have ⟨o, _, _, _, ho, _⟩ := new
    exact ⟨o, ho⟩
  · intro D C s' m H' I' q hn ⟨f0, f1, f2, f3, f4, f5⟩
    exact ⟨m, hn, fun h'' sb => ⟨.ref D, H', I'.turned (t' := s'.toks) (fun b o hb e => (sb.2 b hb).trans e) f0 f1 f3 f4 f5, rfl, q⟩⟩
/-- len of such a set -/
def rLenSI (w : World) : List V → Hp → VK → Prop := fun xs H Q => ∃ (a : Addr) (S : Int → Bool) (n : Nat), xs = [.ref a] ∧ H a = some (SetO w a S n) ∧ Q (.int (n : Int)) H
theorem call_len_SI : CallR X (.builtin "len") (rLenSI X.w) := by
  intro pins s σ H vs us Q I r h
  obtain ⟨a, S, n, rfl, ha, q⟩ := h
  rw [Vals.ref1 r]
  obtain ⟨o, es, ep, t, ho, hex, hd, _, _, _, small, fits, hn, _⟩ := setO_get I ha
  have lim : es.size < 2 ^ 62 := Nat.lt_trans small (by unfold scanBound; decide)
  refine call_len_set ho hex hd fits (by omega) ⟨.int n, H, (I.tok _).tok _, ⟨_, by rw [hn]⟩, q⟩
/-- a turn of {k: e for ..}, k a tuple of ints and texts -/
def addT (tk tv : TE) : Addr → L2.St → Hp → (Hp → Prop) → Prop := fun D σ H Nx => tk σ H fun y H1 => tv σ H1 fun z H2 => ∃ (kvs : List (List Key × V)) (k : List Key) (b : Addr), y = .ref b ∧ H2 b = some (.tup (k.map kV)) ∧ H2 D = some (.dT kvs) ∧ kvs.length < sizeLine ∧
  Nx (upd H2 D (.dT (putK kvs k z)))
theorem pe_dcT {kx vx tg iter : Expr} {ifs : List Expr} {scope : Scope} {own : List (PySem.Str × Nat)} {pos : Pos} {wi : TI} {g : TG} {tt : TT} {tk tv : TE} (hu : X.A.units + 1 < cLine) (hc : X.calm = true) (hN : X.N.Nodup) (hi : PI X tg iter wi) (ok : BlkOk X.N X.env.scope scope own)
    (hg : ∀ (s : Shared) (H : Hp) (C : Addr) (cl : List (PySem.Str × Addr)) (fp : List Addr), PG (X.blk s H scope (compEnvC scope cl C X.env) fp) tg g)
    (ht : ∀ (s : Shared) (H : Hp) (C : Addr) (cl : List (PySem.Str × Addr)) (fp : List Addr), PTs (X.blk s H scope (compEnvC scope cl C X.env) fp) ifs tt)
    (hk : ∀ (s : Shared) (H : Hp) (C : Addr) (cl : List (PySem.Str × Addr)) (fp : List Addr), PE (X.blk s H scope (compEnvC scope cl C X.env) fp) kx tk)
    (he : ∀ (s : Shared) (H : Hp) (C : Addr) (cl : List (PySem.Str × Addr)) (fp : List Addr), PE (X.blk s H scope (compEnvC scope cl C X.env) fp) vx tv)
    (hs : ∀ x, foldedSetIterable iter X.env x = pure x := by intro _; rfl) :
    PE X (.DictComp kx vx [⟨tg, iter, ifs, 0⟩] scope pos) (tGather (fun _ => .dT []) wi g tt (addT tk tv) (own.map (·.2))) := by
  refine ⟨fun pins s σ H Q I h => ?_⟩
  rw [arm_eval_DictComp]
  refine gather_core (ob := { cls := .type "dict", data := .dict #[] }) (mk := newDict) (o0 := fun _ => .dT []) (add := addT tk tv)
    (Body := fun acc env R back s => match acc with
      | .ref D => wpAny (model X.prog X.w) X.A (eval kx env) (fun kv s4 => wpAny (model X.prog X.w) X.A (eval vx env) (fun vv s5 => wpAny (model X.prog X.w) X.A (dictSet D kv vv) (fun _ s6 => back s6) (notedBy (model X.prog X.w) X.A env fun e s' => R (.error e) s') s5)
          (notedBy (model X.prog X.w) X.A env fun e s' => R (.error e) s') s4) (notedBy (model X.prog X.w) X.A env fun e s' => R (.error e) s') s
      | _ => False)
    hc hN I hi ok rfl (fun A E s Q q => wpAny_newObj_type q) (fun h H hb => dt_empty h hb) (fun it D env R I turn n s => compLoop_anyD I turn n) (fun it acc env R s a b => codeAny_compStart_dict a b) hg ht ?_ hs h ?_
  · intro s H C cl fp D R Nx back pins' σ2 H3 s3 I3 q3 k
    refine thnF ((hk s H C cl fp).run _ s3 σ2 H3 _ I3 q3) fun z s4 ⟨yk, H4, I4, r4, q4⟩ => ?_
    refine thnF ((he s H C cl fp).run _ s4 σ2 H4 _ I4 q4) fun z2 s5 ⟨yv, H5, I5, r5, kvs, ks, b, ey, hb, hD, hz, nx⟩ => ?_
    subst ey
    cases (show z = Value.ref b from r4)
    obtain ⟨hl, hd, xs, rel, dd⟩ := dt_of I5.hok hD
    have hz' : xs.length ≤ sizeLine := by rw [← Paired.length rel]; exact hl
    have grown : (putK kvs ks yv).length ≤ sizeLine := by have := length_putK kvs ks yv; omega
    refine wpAny_dictSet_heap (hsz := hz') (show X.A.units < cLine by omega) (key_of I5.hok hb) dd fun h' dd' same => k _ _ ?_ nx
    obtain ⟨q, es, ep, hq, h2, h3, h4, _, h5⟩ := dd'
    refine d_write I5 (by rw [hD]; exact True.intro) same ⟨q, hq⟩ ⟨grown, hd, _, (rel.put ks hb r5).keeps fun c ys ec => ?_, q, es, ep, hq, h2, h3, h4, h5⟩
    rw [upd_ne (ne_of ec hD (fun z => nomatch z))]
    exact ec
  · intro D C s' m H' I' q hn ⟨f0, f1, f2, f3, f4, f5⟩
    exact ⟨m, hn, fun h'' sb => ⟨.ref D, H', I'.turned (t' := s'.toks) (fun b o hb e => (sb.2 b hb).trans e) f0 f1 f3 f4 f5, rfl, q⟩⟩
end
end L2

set_option Elab.async false
set_option maxRecDepth 100000
set_option maxHeartbeats 4000000
namespace L2
open PySem PySem.Spec PyProof.Rows
set_option linter.unusedVariables false
/-! sorted(d), d a dict whose keys are tuples of ints -/
def rSortDT (d : Nat) (B : Int) : List V → Hp → VK → Prop := fun vs H Q => ∃ (a : Addr) (kvs : List (List Key × V)) (nss : List (List Int)), vs = [V.ref a] ∧ Rd H a (.dT kvs) ∧ kvs.map (·.1) = nss.map (fun ns => ns.map Sum.inl) ∧ nss.length < 64 ∧
  (∀ ns ∈ nss, ns.length = d ∧ TS.Bd B ns) ∧
  ∀ (L : List (Addr × List Int)) (p : Addr), (L.map (·.2)).Perm nss → L.Pairwise (fun q r => TS.code B q.2 ≤ TS.code B r.2) → (∀ q ∈ L, H q.1 = some (.tup (q.2.map V.int))) → H p = none → Q (.ref p) (upd H p (.lst (L.map fun q => V.ref q.1)))
theorem inl_inj : ∀ {a b : List Int}, a.map (Sum.inl : Int → Key) = b.map Sum.inl → a = b
  | [], [], _ => rfl
  | x :: a, y :: b, e => by
    rw [List.map_cons, List.map_cons] at e
    injection e with e1 e2
    rw [Sum.inl.inj e1, inl_inj e2]
  | [], _ :: _, e => by cases e
  | _ :: _, [], e => by cases e
section
variable {X : Cx}
theorem cr_sortedDT {d : Nat} {B : Int} (hd1 : 1 ≤ d) (hc : X.calm = true) : CallR X (.builtin "sorted") (rSortDT d B) := by
  intro pins s σ H vs us Q I r h
  obtain ⟨a, kvs, nss, rfl, hR, hkeys, few, hB, q⟩ := h
  rw [Vals.ref1 r]
  obtain ⟨hz, notSys, ks, pairs, o, es, ep, ho, hx, hdt, rows, nd⟩ := (show ObjOk X.prog X.w H s.heap a (.dT kvs) from hR.ok I.hok)
  have l1 : es.size = ks.length := size_of_entries rows
  have l2 : kvs.length = ks.length := Paired.length pairs
  have l3 : kvs.length = nss.length := by have e := congrArg List.length hkeys; rwa [List.length_map, List.length_map] at e
  -- each row: its tuple, by number
  have row : ∀ (j : Nat) (x : List Key × Addr × Value), ks[j]? = some x → ∃ ns, nss[j]? = some ns ∧ H x.2.1 = some (.tup (ns.map V.int)) := fun j x hj => by
    have lt : j < kvs.length := by have := (List.getElem?_eq_some_iff.mp hj).1; omega
    obtain ⟨b, hb, e1, e2, _⟩ := paired_get pairs (List.getElem?_eq_getElem lt)
    rw [hj] at hb
    cases hb
    have e3 : (kvs.map (·.1))[j]? = some kvs[j].1 := by rw [List.getElem?_map, List.getElem?_eq_getElem lt]; rfl
    rw [hkeys, List.getElem?_map] at e3
    obtain ⟨ns, hns, e4⟩ := Option.map_eq_some_iff.mp e3
    refine ⟨ns, hns, ?_⟩
    rw [e2, ← e4, List.map_map]
    rfl
  refine Calls.call_function_entry kind_sorted plain_sorted entry_sorted (args_sorted1 _) ?_
  unfold Builtin.«sorted»
  refine wpAny_bind (m := checkCount "sorted" 1 1 _) (wpAny_pure ?_)
  refine wpAny_bind (PySem.W.kdu_collect (A := X.A.in1) (kdl_raw notSys hx hdt) (I.ok.hd hc) ho (by omega) fun h' tk acc kept its => ?_)
  have eq : acc.toList = ks.map fun x => Value.ref x.2.1 := by
    apply List.ext_getElem?
    intro j
    rw [List.getElem?_map]
    rcases Nat.lt_or_ge j ks.length with lt | ge
    · have hacc : j < acc.toList.length := by rw [Array.length_toList, its.1, l1]; exact lt
      obtain ⟨en, hen, hv⟩ := its.2 j acc.toList[j] (by rw [← Array.getElem?_toList]; exact List.getElem?_eq_getElem hacc)
      have qe := entry_at rows j
      rw [hen, List.getElem?_eq_getElem lt] at qe
      have e2 : en = entryOfKey (tupleKind (mixKind X.prog X.w)) ks[j] := Option.some.inj qe
      rw [List.getElem?_eq_getElem hacc, List.getElem?_eq_getElem lt, hv, e2]
      rfl
    · rw [List.getElem?_eq_none (by rw [Array.length_toList, its.1, l1]; exact ge), List.getElem?_eq_none ge]
      rfl
  have I1 : Inv X pins σ H { s with heap := h', toks := tk } := I.kept kept
  refine wpAny_bind (wpAny_newList ?_ (by rw [eq, List.length_map, sizeLine_eq]; omega))
  have made : (h'.push (seqObj "list" acc.toList.toArray 0)).get? h'.objs.size = some (seqObj "list" acc.toList.toArray 0) := Heap.get?_push_size _ rfl
  generalize hvs : acc.toList = vs at made eq ⊢
  have I2 : Inv X pins σ H { s with heap := h'.push (seqObj "list" vs.toArray 0), toks := tk } := I1.kept (t' := tk) fun b o e => Heap.get?_push_of_some _ e
  have tups : ∀ v ∈ vs, ∃ (b : Addr) (ns : List Int), v = .ref b ∧ ns ∈ nss ∧ H b = some (.tup (ns.map V.int)) ∧ TS.TupInts (h'.push (seqObj "list" vs.toArray 0)) v ns := fun v hv => by
    rw [eq] at hv
    obtain ⟨x, hx, rfl⟩ := List.mem_map.mp hv
    obtain ⟨j, hj⟩ := List.getElem?_of_mem hx
    obtain ⟨ns, h1, h2⟩ := row j x hj
    obtain ⟨_, ws, rv, it⟩ := (show ObjOk X.prog X.w H (h'.push (seqObj "list" vs.toArray 0)) x.2.1 (.tup (ns.map V.int)) from I2.hok _ _ h2)
    exact ⟨_, ns, rfl, List.mem_of_getElem? h1, h2, _, ws.toArray, rfl, it, by simpa using rv.ints⟩
  show wpAny _ _ _ _ _ { s with heap := h'.push (seqObj "list" vs.toArray 0), toks := tk }
  refine wpAny_bind (wpAny_holding (TS.call_sort_tups (d := d) (B := B) (s := { s with heap := h'.push (seqObj "list" vs.toArray 0), toks := tk }) made (by rw [eq, List.length_map]; omega) hd1 (fun v hv => ?_) fun out a1 a2 => ?_))
  · obtain ⟨b, ns, _, h1, _, h2⟩ := tups v hv
    exact ⟨ns, h2, (hB ns h1).1, (hB ns h1).2⟩
  obtain ⟨e', he'⟩ := sortedHeap_at (vs := vs) (out := out) made
  have kept2 : ∀ b u, h'.get? b = some u → (sortedHeap (h'.push (seqObj "list" vs.toArray 0)) h'.objs.size vs out).get? b = some u := fun b u e => by
    have hb : b < h'.objs.size := Heap.lt_size e
    rw [sortedHeap_old (Nat.ne_of_lt hb) (by rw [size_push']; exact Nat.lt_succ_of_lt hb)]
    exact Heap.get?_push_of_some _ e
  -- the rows that come out
  have L0 : ∀ ws : List Value, (∀ v ∈ ws, v ∈ vs) → ∃ L : List (Addr × List Int), ws = L.map (fun q => Value.ref q.1) ∧ L.map (·.2) = ws.map (TS.intsOf (h'.push (seqObj "list" vs.toArray 0))) ∧ ∀ q ∈ L, H q.1 = some (.tup (q.2.map V.int)) := by
    intro ws
    induction ws with
    | nil => intro _; exact ⟨[], rfl, rfl, fun q hq => by cases hq⟩
    | cons v ws ih =>
      intro hv
      obtain ⟨b, ns, e, _, h2, h3⟩ := tups v (hv v List.mem_cons_self)
      obtain ⟨L, e1, e2, e3⟩ := ih fun u hu => hv u (List.mem_cons_of_mem _ hu)
      refine ⟨(b, ns) :: L, by rw [List.map_cons, e, e1], by rw [List.map_cons, List.map_cons, e2, h3.ints], fun q hq => ?_⟩
      rcases List.mem_cons.mp hq with rfl | z
      · exact h2
      · exact e3 q z
  obtain ⟨L, e1, e2, e3⟩ := L0 out.toList fun v hv => a1.mem_iff.mp hv
  have lenL : (L.map fun q => V.ref q.1).length ≤ sizeLine := by
    have e4 := a1.length_eq
    rw [e1, eq, List.length_map, List.length_map] at e4
    rw [List.length_map, e4, sizeLine_eq]; omega
  refine wpAny_pure ⟨_, rfl, .ref h'.objs.size, upd H h'.objs.size (.lst (L.map fun q => V.ref q.1)), I1.laid (t' := tk) kept2 (Nat.le_refl _)
    (show ObjOk X.prog X.w _ _ _ (.lst (L.map fun q => V.ref q.1)) from ⟨lenL, out.toList, e', by rw [e1]; exact vals_of_refs L, he'⟩), rfl, q L _ ?_ ?_ e3 (I1.hok.fresh (Nat.le_refl _))⟩
  · rw [e2]
    have all : ∀ F : Value → List Int, (∀ (j : Nat) (x : List Key × Addr × Value), ks[j]? = some x → nss[j]? = some (F (.ref x.2.1))) → vs.map F = nss := fun F hF => by
      rw [eq, List.map_map]
      apply List.ext_getElem?
      intro j
      rw [List.getElem?_map]
      cases hj : ks[j]? with
      | none => rw [List.getElem?_eq_none (by have := List.getElem?_eq_none_iff.mp hj; omega)]; rfl
      | some x => rw [hF j x hj]; rfl
    refine (a1.map _).trans (List.Perm.of_eq (all _ fun j x hj => ?_))
    obtain ⟨ns, h1, h2⟩ := row j x hj
    obtain ⟨_, ws, rv, it⟩ := (show ObjOk X.prog X.w H (h'.push (seqObj "list" vs.toArray 0)) x.2.1 (.tup (ns.map V.int)) from I2.hok _ _ h2)
    rw [h1]
    exact congrArg some (show TS.TupInts (h'.push (seqObj "list" vs.toArray 0)) (.ref x.2.1) ns from ⟨_, ws.toArray, rfl, it, by simpa using rv.ints⟩).ints.symm
  · rw [e1, List.pairwise_map] at a2
    have e5 : ∀ q ∈ L, TS.intsOf (h'.push (seqObj "list" vs.toArray 0)) (.ref q.1) = q.2 := fun q hq => by
      obtain ⟨_, ws, rv, it⟩ := (show ObjOk X.prog X.w H (h'.push (seqObj "list" vs.toArray 0)) q.1 (.tup (q.2.map V.int)) from I2.hok _ _ (e3 q hq))
      exact (show TS.TupInts (h'.push (seqObj "list" vs.toArray 0)) (.ref q.1) q.2 from ⟨_, ws.toArray, rfl, it, by simpa using rv.ints⟩).ints
    refine List.Pairwise.imp_of_mem (fun {x y} hx hy hle => ?_) a2
    rw [← e5 x hx, ← e5 y hy]
    exact hle
end
end L2

set_option Elab.async false
set_option maxRecDepth 100000
set_option maxHeartbeats 4000000
namespace L2
open PySem PySem.Spec PyProof.Rows
set_option linter.unusedVariables false
/-! set(xs), xs a list of ints, as a set that can be sorted -/
section
variable {P : Program} {w : World} {A : Around} {E : Value → Shared → Prop} {s : Shared}
theorem set_of_list {l : Addr} {items : Array Value} (ns : List Int) {Q : Value → Shared → Prop} (hh : A.handled = none) (hl : s.heap.IsList l items) (hit : IntsAre items.toList ns) (hb : ns.length + 1 < scanBound)
    (h : ∀ (h' : Heap) (tk c : Nat), SetR w h' s.heap.objs.size (fun j => decide (j ∈ ns)) c → c ≤ ns.length → (∀ b o, s.heap.get? b = some o → h'.get? b = some o) → Q (.ref s.heap.objs.size) { s with heap := h', toks := tk }) :
    wpAny (model P w) A (call (.type "set") [.ref l]) Q E s := by
  have sizes : items.size = ns.length := by rw [← Array.length_toList]; exact IntsAre.length hit
  obtain ⟨c, tl, hmro⟩ := F.called_set.mro
  have hmade := F.called_set.made
  have hsub := F.called_set.sub
  refine wpAny_call (codeAny_of_tree ?_)
  show wpAny (model P w) _ (callAny (.type "set") _) _ _ s
  refine wpAny_pure ⟨Code.quiet_builtin _ (by decide +kernel), codeAny_builtin F.entry_type_call ?_⟩
  rw [Around.under_plain (weight_type_call_type "set" [.ref l] []) rfl]
  have h1 := F.called_set.notType
  have h2 := F.called_set.canCreate
  have hct := F.typeCall_set_1 (.ref l)
  repeat (any_goals (first | assumption | wp_step))
  refine codeAny_mono (code_set_led1 (.ref l) (E := E) (Q₁ := fun obj s₁ => obj = .ref s.heap.objs.size ∧ s₁ = { s with heap := s.heap.push (bareSet w) }) ⟨rfl, rfl⟩) fun r s₁ hr => ?_
  match r, hr with
  | .error e, hr => exact hr
  | .ok .next, hr | .ok .brk, hr | .ok .cont, hr => exact hr.elim
  | .ok (.ret obj), hr =>
    obtain ⟨rfl, rfl⟩ := hr
    have laid : (s.heap.push (bareSet w)).get? s.heap.objs.size = some (bareSet w) := Heap.get?_push_size _ rfl
    have hT : Shared.TypeIs { s with heap := s.heap.push (bareSet w) } (.ref s.heap.objs.size) "set" := ⟨_, laid, rfl⟩
    have hli := F.called_set.init.lookup
    have hbi := F.called_set.init.bind (.ref s.heap.objs.size)
    repeat (any_goals (first | assumption | wp_step))
    refine codeAny_mono (codeAny_call_builtin (R := wants (fun r s₂ => r = .none ∧ ∃ h' tk c, s₂ = { s with heap := h', toks := tk } ∧ SetR w h' s.heap.objs.size (fun j => decide (j ∈ ns)) c ∧ c ≤ ns.length ∧
        (∀ b o, s.heap.get? b = some o → h'.get? b = some o)) E) F.called_set.init.plain F.entry_set_init (check_set_init_1 hT ?_)) fun r₂ s₂ hr₂ => ?_
    · obtain ⟨⟨ocls, odict, odata, oslots⟩, hol, hcl, nl, hdl⟩ := hl
      simp only at hcl hdl
      subst hcl; subst hdl
      have lS : l < s.heap.objs.size := Heap.lt_size hol
      have hol' : (s.heap.push (bareSet w)).get? l = some { cls := .type "list", dict := odict, data := .seq items nl, slots := oslots } := Heap.get?_push_of_some _ hol
      have hsls := F.sub_list_set
      have hslf := F.sub_list_frozenset
      have hne : (Value.type "list" == Value.type "dict") = false := by decide
      have hl1 : (s.heap.push (bareSet w)).IsList l items := ⟨_, hol', rfl, nl, rfl⟩
      unfold Builtin.«set.__init__» noKeywords Builtin.Frozenset.updateFrom
      generalize hPI : pyIter = PI
      wp_walk
      subst hPI
      refine wpAny_pyIter_list hl1 ?_
      refine wpAny_bind (wpAny_runValue ?_)
      have hh3 : A.in1.in1.in1.handled = none := by simp [hh]
      have pz : (s.heap.push (bareSet w)).objs.size = s.heap.objs.size + 1 := Heap.size_push ..
      have hneI : l ≠ (s.heap.push (bareSet w)).objs.size := by rw [pz]; exact Nat.ne_of_lt (Nat.lt_succ_of_lt lS)
      have away : s.heap.objs.size ∉ [(s.heap.push (bareSet w)).objs.size, l] := by
        rw [pz]; simp only [List.mem_cons, List.not_mem_nil, or_false, not_or]
        exact ⟨Nat.ne_of_lt (Nat.lt_succ_self _), Nat.ne_of_gt lS⟩
      have hval : ∀ (i : Nat) (v : Value), items[i]? = some v → ∃ k t, ns[i]? = some k ∧ v = .int k t := fun i v hv => by
        have hi : i < ns.length := by rw [← sizes]; exact (Array.getElem?_eq_some_iff.mp hv).1
        obtain ⟨t, e⟩ := IntsAre.int_at hit i v (by rw [Array.getElem?_toList]; exact hv)
        refine ⟨ns[i], t, List.getElem?_eq_getElem hi, ?_⟩
        rw [e, List.getD_eq_getElem?_getD, List.getElem?_eq_getElem hi]
        rfl
      refine set_update_ints ((Walks.list hh3 _ l hneI items).toS) s.heap.objs.size away ns sizes hb hval (items.size - 0) 0 _ (by omega) (Nat.zero_le _) ⟨⟨_, Heap.get?_push_size _ rfl, rfl, rfl⟩, (hl1.push _)⟩ ⟨0, Nat.le_refl 0, setR_new_at (Heap.get?_push_of_some _ laid)⟩ ?_
      intro s' c' hm hc' hS'
      obtain ⟨h', g2, d', tk', os'⟩ := s'
      cases (hm.gens : g2 = s.gens); cases (hm.drawn : d' = s.drawn); cases (hm.os : os' = s.os)
      show wpAny (model P w) _ _ _ _ _
      refine wpAny_pure ?_
      show wpAny (model P w) _ (ret Value.none) _ _ _
      rw [sizes] at hc'
      refine wpAny_pure ⟨rfl, h', tk', c', rfl, hS', hc', fun b o e => ?_⟩
      have b0 : b < s.heap.objs.size := Heap.lt_size e
      have b2 : b ≠ (s.heap.push (bareSet w)).objs.size := by rw [pz]; exact Nat.ne_of_lt (Nat.lt_succ_of_lt b0)
      exact hm.heap b o (by simp only [List.mem_cons, List.not_mem_nil, or_false, not_or]; exact ⟨Nat.ne_of_lt b0, b2⟩) (Heap.get?_push_of_some _ (Heap.get?_push_of_some _ e))
    · match r₂, hr₂ with
      | .error e, hr₂ => exact hr₂
      | .ok .next, hr₂ | .ok .brk, hr₂ | .ok .cont, hr₂ => exact hr₂.elim
      | .ok (.ret r), hr₂ =>
        obtain ⟨rfl, h', tk, c', rfl, hS', hc', hk'⟩ := hr₂
        repeat (any_goals (first | assumption | wp_step))
        exact h _ _ _ hS' hc' hk'
end
section
variable {X : Cx}
/-- set(xs), xs a list of ints -/
def rSetOfI (K : PySem.W.Frag) (w : World) : List V → Hp → VK → Prop := fun vs H Q => ∃ (l : Addr) (ns : List Int), vs = [V.ref l] ∧ SqL K H l (ns.map V.int) ∧ ns.length ≤ 1000 ∧
  ∀ (a : Addr) (c : Nat), H a = none → c ≤ ns.length → Q (.ref a) (upd H a (SetO w a (fun j => decide (j ∈ ns)) c))
theorem cr_setOfI (hc : X.calm = true) : CallR X (.type "set") (rSetOfI X.K X.w) := by
  intro pins s σ H vs us Q I r h
  obtain ⟨l, ns, rfl, hl, few, q⟩ := h
  rw [Vals.ref1 r]
  obtain ⟨its, rv, pl, hz⟩ := I.list hl
  refine set_of_list ns (I.ok.hd hc) pl.isList (by simpa using rv.ints) (by unfold scanBound; omega) fun h' tk c R hle kept => ?_
  exact ⟨.ref s.heap.objs.size, upd H s.heap.objs.size (SetO X.w s.heap.objs.size (fun j => decide (j ∈ ns)) c), I.laid (t' := tk) kept (Nat.le_refl _) (setO_new R), rfl, q _ c (I.hok.fresh (Nat.le_refl _)) hle⟩
end
end L2

set_option Elab.async false
set_option maxRecDepth 100000
set_option maxHeartbeats 4000000
namespace L2
open PySem PySem.Spec PyProof.Rows
set_option linter.unusedVariables false
/-! d.clear() of a dict with tuple keys -/
def rClearT : V → List V → Hp → VK → Prop := fun x vs H Q => ∃ (a : Addr) (kvs : List (List Key × V)), x = .ref a ∧ vs = [] ∧ H a = some (.dT kvs) ∧ Q .non (upd H a (.dT []))
theorem mt_clearT {X : Cx} : MtR X "dict.clear" rClearT := by
  intro pins s σ H x vs v us Q I rx rv h
  obtain ⟨a, kvs, ex, ev, e, q⟩ := h
  subst ex
  subst ev
  obtain rfl : v = Value.ref a := rx
  have hus := rv.zero
  subst hus
  obtain ⟨hz, notSys, ks, pairs, o, es, ep, ho, hx, hdt, rows, nd⟩ := (show ObjOk X.prog X.w H s.heap a (.dT kvs) from I.hok a _ e)
  have l1 : es.size = ks.length := size_of_entries rows
  have l2 : kvs.length = ks.length := Paired.length pairs
  have raw : s.heap.DictRaw a es ep := ⟨o, ho, hx, hdt⟩
  refine call_meetsIn PySem.F.slot_dict_clear raw.typeIs PySem.F.entry_dict_clear (PySem.F.args_dict_clear_1 _) (meets_dict_clear_raw a) ⟨es, ep, raw, by omega, fun h' dd' hs => ?_⟩
  obtain ⟨o', h1, h2, h3⟩ := dd'
  refine ⟨.non, _, d_write (ob := .dT []) (t' := s.toks) I (by rw [e]; exact True.intro) hs ⟨o', h1⟩ ⟨Nat.zero_le _, notSys, [], .nil, o', #[], ep + 1, h1, h2, h3, rfl, List.nodup_nil⟩, rfl, q⟩
end L2

set_option Elab.async false
set_option maxRecDepth 100000
set_option maxHeartbeats 4000000
namespace L2
open PySem PySem.Spec PyProof.Rows PpSet
set_option linter.unusedVariables false
/-! a display with tuples as keys -/
/-- the pairs that were made, as keys and values -/
abbrev PDt (H : Hp) : List (V × V) → List (List Key × V) → Prop := Paired fun p q => (∃ b, p.1 = .ref b ∧ H b = some (.tup (q.1.map kV))) ∧ p.2 = q.2
def mergeT (kvs more : List (List Key × V)) : List (List Key × V) := more.foldl (fun acc kv => putK acc kv.1 kv.2) kvs
theorem length_mergeT : ∀ (more kvs : List (List Key × V)), (mergeT kvs more).length ≤ kvs.length + more.length
  | [], kvs => by show kvs.length ≤ kvs.length + 0; omega
  | p :: r, kvs => by
    have a := length_mergeT r (putK kvs p.1 p.2)
    have b := length_putK kvs p.1 p.2
    show (mergeT (putK kvs p.1 p.2) r).length ≤ _
    rw [List.length_cons]; omega
theorem KT.merge {H : Hp} : ∀ {more : List (List Key × V)} {rs : List (List Key × Addr × Value)} {kvs : List (List Key × V)} {xs : List (List Key × Addr × Value)}, KT H more rs → KT H kvs xs → KT H (mergeT kvs more) (storedAllH xs rs) := by
  intro more rs kvs xs r
  unfold KT at r
  induction r generalizing kvs xs with
  | nil => intro q; exact q
  | @cons p q ps qs h t ih =>
    intro r0
    have e : KT H (putK kvs p.1 p.2) (storedH xs q.1 q.2.1 q.2.2) := by
      rw [← h.1]
      exact r0.put p.1 h.2.1 h.2.2
    exact ih e
theorem carriesT_of {P : Program} {w : World} {H : Hp} {h : Heap} (ok : HOk P w H h) : ∀ {ps : List (V × V)} {kvs : List (List Key × V)} {ws : List (Value × Value)}, VV ps ws → PDt H ps kvs → ∃ rs, CarriesH (tupleKind (mixKind P w)) h ws rs ∧ KT H kvs rs := by
  intro ps kvs ws r
  induction r generalizing kvs with
  | nil =>
    intro q
    cases q
    exact ⟨[], True.intro, .nil⟩
  | @cons p v ps vs hv t ih =>
    intro q
    cases q with
    | @cons _ kv _ kvs hk tk =>
      obtain ⟨rs, c, z⟩ := ih tk
      obtain ⟨⟨b, e1, hb⟩, e2⟩ := hk
      obtain ⟨v1, v2⟩ := v
      obtain ⟨r1, r2⟩ := hv
      rw [e1] at r1
      cases (show v1 = Value.ref b from r1)
      exact ⟨(kv.1, b, v2) :: rs, ⟨rfl, rfl, key_of ok hb, c⟩, .cons ⟨rfl, hb, e2 ▸ r2⟩ z⟩
/-- {(a, b): v, ..}; the new dict stands empty while the pairs are made -/
def tDispT (trs : List (TE × TE)) : TE := fun σ H Q => ∀ p, H p = none → tPairs trs σ (upd H p (.dT [])) fun ps H2 => H2 p = some (.dT []) ∧ ∃ kvs : List (List Key × V), PDt H2 ps kvs ∧ kvs.length ≤ 15 ∧ Q (.ref p) (upd H2 p (.dT (mergeT [] kvs)))
theorem pe_dispT {X : Cx} {pos : Pos} {keys : List (Option Expr)} {values : List Expr} {trs : List (TE × TE)} (hu : X.A.units + 1 < cLine) (h : PPs X pos keys values trs) (hall : keys.all (·.isSome) = true) (hl : keys.length = values.length) (h0 : keys ≠ [])
    (h15 : keys.length ≤ 15) : PE X (.Dict keys values pos) (tDispT trs) := by
  refine ⟨fun pins s σ H Q I q => ?_⟩
  have hn := I.hok.fresh (Nat.le_refl s.heap.objs.size)
  have I1 := I.laid (a := s.heap.objs.size) (o := .dT []) (h' := s.heap.push { cls := .type "dict", data := .dict #[] }) (t' := s.toks) (fun _ _ q => Heap.get?_push_of_some _ q) (Nat.le_refl _) (dt_empty s.heap I.big)
  have hlen := pairTrees_length keys values X.env pos hall hl
  have hne : pairTrees keys values X.env pos ≠ [] := fun he => by
    rw [he] at hlen
    exact h0 (List.length_eq_zero_iff.mp hlen.symm)
  rw [arm_eval_Dict, zip_pairTrees keys values X.env pos hall hl, dictDisplay_pairs _ hne (by omega)]
  refine wpAny_bind (wpAny_standAt (wpAny_bind (wpAny_subDictH (knd := tupleKind (mixKind X.prog X.w)) (show X.A.units < cLine by omega) (by omega) (thn (h.run pins _ σ _ _ I1 (q _ hn)) fun ws s2 ⟨ps, H2, I2, rel, e, kvs, pt, lk, q2⟩ => ?_))))
  obtain ⟨rs, c, rk⟩ := carriesT_of I2.hok rel pt
  obtain ⟨z, hd, vs0, r0, dd⟩ := dt_of I2.hok e
  cases r0
  refine ⟨rs, c, dd, fun h' tk dd' hs => wpAny_pure ⟨.ref s.heap.objs.size, _, ?_, rfl, q2⟩⟩
  have hz : (mergeT [] kvs).length ≤ sizeLine := by
    have h1 := length_mergeT kvs []
    rw [List.length_nil] at h1
    rw [sizeLine_eq]; omega
  obtain ⟨o, es, ep, ho, h2, h3, h4, _, h5⟩ := dd'
  refine d_write I2 (by rw [e]; exact True.intro) hs ⟨o, ho⟩ ⟨hz, hd, _, (rk.merge .nil).keeps fun c ys ec => ?_, o, es, ep, ho, h2, h3, h4, h5⟩
  rw [upd_ne (ne_of ec e (fun z => nomatch z))]
  exact ec
end L2

set_option Elab.async false
set_option maxRecDepth 100000
set_option maxHeartbeats 4000000
namespace L2
open PySem PySem.Spec PyProof.Rows
set_option linter.unusedVariables false
/-! t in s, s a set of tuples of ints that stands still -/
section
variable {P : Program} {w : World} {A : Around} {E : Value → Shared → Prop} {s : Shared}
variable {a : Addr} {L : List (Addr × List Int)} {es : Array (Int × Value)} {ep : Nat} {t : SetTable}
theorem nth_dummy (m : Nat) : ∀ (c : Nat) (q : SetTable.Probe), q.dummy = none → (nth m q c).dummy = none
  | 0, q, e => e
  | c + 1, q, e => nth_dummy m c (adv m q) (by unfold adv; split <;> exact e)
theorem seek {x : Addr} {k : List Int} (R : SetTR P w s.heap a L es ep t) (mine : IsT P w s.heap k x) (few : A.units < cLine) {end_ : Nat} {Q : SetFound → Shared → Prop}
    (ends : end_ < 10 * SetTable.turns t.mask) (free : way t.mask (thash P w k) end_ ∉ t.place.toList) (full : ∀ c, c < end_ → way t.mask (thash P w k) c ∈ t.place.toList)
    (yes : k ∈ L.map (·.2) → ∀ i, Q (.there (some i)) s) (no : k ∉ L.map (·.2) → ∀ j, Q (.free j false) s) :
    ∀ (fuel c : Nat) (at_ : Option SetTable.Probe), at_.getD (t.probeStart (thash P w k)) = nth t.mask (t.probeStart (thash P w k)) c → c ≤ end_ → end_ - c < fuel →
      (∀ (i : Nat) q, L[i]? = some q → q.2 = k → ∃ d, c ≤ d ∧ d < end_ ∧ t.place.toList[i]? = some (way t.mask (thash P w k) d)) →
      wpAny (model P w) A (setSearchFrom a (.ref x) (thash P w k) false fuel at_) Q E s := by
  intro fuel
  induction fuel with
  | zero => exact fun c at_ _ _ lt _ => absurd lt (Nat.not_lt_zero _)
  | succ n again =>
    intro c at_ here cle lt ahead
    obtain ⟨ob, got, exact_, dat⟩ := R.ob
    rw [setSearchFrom_succ]
    apply wpAny_bind
    apply wpAny_setState_of got dat R.fits
    dsimp only
    apply wp_if_neg R.gw
    try (apply wpAny_bind; apply wpAny_pure)
    have plain0 := nth_dummy t.mask c (t.probeStart (thash P w k)) rfl
    have join : ∀ d, nth t.mask (nth t.mask (t.probeStart (thash P w k)) c) d = nth t.mask (t.probeStart (thash P w k)) (c + d) := fun d => (nth_add t.mask c _ d).symm
    have spot : ∀ d, (nth t.mask (nth t.mask (t.probeStart (thash P w k)) c) d).j = way t.mask (thash P w k) (c + d) := fun d => congrArg (·.j) (join d)
    have hash_ : ∀ (i : Nat) q, L[i]? = some q → ((es[i]?.map (·.1)).getD 0) = thash P w q.2 := fun i q e => by
      rw [R.entry e] <;> rfl
    rcases go_spec t R.tab.ris R.tab.dm (fun i => (es[i]?.map (·.1)).getD 0) (thash P w k) (10 * SetTable.turns t.mask) (end_ - c) _ plain0 (by omega) (fun d lt => by rw [spot]; exact full _ (by omega)) (by rw [spot, Nat.add_sub_cancel' cle]; exact free) with ⟨d, i, dlt, at_i, hi, before, probe⟩ | ⟨before, probe⟩
    · rw [spot] at at_i probe
      rw [join] at probe
      have probe' : t.probe (fun i => (es[i]?.map (·.1)).getD 0) (thash P w k) (at_.getD (t.probeStart (thash P w k))) = some (.candidate (way t.mask (thash P w k) (c + d)) i (nth t.mask (t.probeStart (thash P w k)) (c + (d + 1)))) := by rw [here]; exact probe
      rw [probe']
      dsimp only
      have il : i < L.length := by
        have z1 := (List.getElem?_eq_some_iff.mp at_i).1
        have z2 := R.tab.sz
        rw [List.length_map] at z2
        rwa [Array.length_toList, z2] at z1
      obtain ⟨q, eq⟩ : ∃ q, L[i]? = some q := ⟨_, List.getElem?_eq_getElem il⟩
      have qm := List.mem_of_getElem? eq
      have inner : wpAny (model P w) A (searchRest a (.ref x) (thash P w k) false n es t (way t.mask (thash P w k) (c + d)) i (nth t.mask (t.probeStart (thash P w k)) (c + (d + 1)))) Q E s := by
        unfold searchRest
        rw [R.entry eq]
        dsimp only
        apply wpAny_bind
        apply wpAny_holding
        apply wpAny_eqBool_tuple few (R.tup q qm) mine
        apply wpAny_bind
        apply wpAny_setState_of got dat R.fits
        dsimp only
        apply wp_if_neg (by simp)
        try (apply wpAny_bind; apply wpAny_pure)
        rw [sameMem]
        dsimp only
        have live := slot_live R.tab.ris at_i
        simp only [if_true, live, R.entry eq]
        apply wpAny_bind
        apply wpAny_isSame_ref_self
        apply wpAny_bind
        apply wpAny_pure
        simp only [if_true]
        by_cases same : q.2 = k
        · apply wp_if_pos (by simp [same])
          exact wpAny_pure (yes (List.mem_map.mpr ⟨q, qm, same⟩) i)
        · apply wp_if_neg (by simp [same])
          apply again (c + (d + 1)) _ rfl (by omega) (by omega)
          intro i0 q0 e0 k0
          obtain ⟨d', l1, l2, l3⟩ := ahead i0 q0 e0 k0
          refine ⟨d', ?_, l2, l3⟩
          by_cases z : d' < c + d
          · refine absurd ((hash_ i0 q0 e0).trans (congrArg (thash P w) k0)) (before (d' - c) i0 (by omega) ?_)
            rw [spot, Nat.add_sub_cancel' l1]
            exact l3
          · by_cases y : d' = c + d
            · exfalso
              rw [y] at l3
              have live0 := slot_live R.tab.ris l3
              rw [live] at live0
              injection live0 with live0
              rw [← live0, eq] at e0
              cases e0
              exact same k0
            · omega
      by_cases led : t.led = true
      · apply wp_if_neg (by simp [led])
        try (apply wpAny_bind; apply wpAny_pure)
        exact inner
      · apply wp_if_pos (by simp [led])
        apply wpAny_bind
        apply seen_tup mine
        · intro y hy
          obtain ⟨e, me, rfl⟩ := List.mem_map.mp hy
          have me1 : e ∈ es.toList := (show e ∈ es ∧ _ by simpa using me).1.val
          rw [R.rows] at me1
          obtain ⟨q2, m2, rfl⟩ := List.mem_map.mp me1
          exact ⟨q2.2, q2.1, rfl, R.tup q2 m2⟩
        · apply wp_if_neg (by decide)
          try (apply wpAny_bind; apply wpAny_pure)
          exact inner
    · have probe' : t.probe (fun i => (es[i]?.map (·.1)).getD 0) (thash P w k) (at_.getD (t.probeStart (thash P w k))) = some (.empty (nth t.mask (nth t.mask (t.probeStart (thash P w k)) c) (end_ - c)).j none) := by rw [here]; exact probe
      rw [probe']
      dsimp only
      apply wpAny_pure
      apply no
      intro hm
      obtain ⟨q0, m0, k0⟩ := List.mem_map.mp hm
      obtain ⟨i0, e0⟩ := List.getElem?_of_mem m0
      obtain ⟨d', l1, l2, l3⟩ := ahead i0 q0 e0 k0
      refine before (d' - c) i0 (by omega) ?_ ((hash_ i0 q0 e0).trans (congrArg (thash P w) k0))
      rw [spot, Nat.add_sub_cancel' l1]
      exact l3
theorem seek_all {x : Addr} {k : List Int} (R : SetTR P w s.heap a L es ep t) (mine : IsT P w s.heap k x) (few : A.units < cLine) {Q : SetFound → Shared → Prop}
    (yes : k ∈ L.map (·.2) → ∀ i, Q (.there (some i)) s) (no : k ∉ L.map (·.2) → ∀ j, Q (.free j false) s) : wpAny (model P w) A (setSearch a (.ref x) (thash P w k)) Q E s := by
  have room := R.room
  obtain ⟨end_, ends, free, full⟩ := R.tab.first (by rw [List.length_map]; omega) (thash P w k)
  have turns : 10 * SetTable.turns t.mask ≤ 1420 := by
    unfold SetTable.turns
    rcases R.tab.mok with z | z | z <;> omega
  unfold setSearch
  apply seek R mine few ends free full yes no 100000 0 none rfl (Nat.zero_le _) (by omega)
  intro i q e hk
  have e' : (L.map fun p => thash P w p.2)[i]? = some (thash P w k) := by rw [List.getElem?_map, e, ← hk] <;> rfl
  have il : i < t.place.toList.length := by
    have z1 := (List.getElem?_eq_some_iff.mp e).1
    have z2 := R.tab.sz
    rw [List.length_map] at z2
    rw [Array.length_toList]
    omega
  obtain ⟨d, dlt, de⟩ := R.tab.before free e' (List.getElem?_eq_getElem il)
  exact ⟨d, Nat.zero_le _, dlt, by rw [List.getElem?_eq_getElem il, de]⟩
theorem find_tup {x : Addr} {k : List Int} (R : SetTR P w s.heap a L es ep t) (mine : IsT P w s.heap k x) (few : A.units < cLine) {Q : Option Nat → Shared → Prop} (h : ∀ r : Option Nat, r.isSome = decide (k ∈ L.map (·.2)) → Q r s) :
    wpAny (model P w) A (setFind a (.ref x) (thash P w k)) Q E s := by
  obtain ⟨ob, got, exact_, dat⟩ := R.ob
  unfold setFind setFindIn
  apply wpAny_bind
  apply wpAny_setState_of got dat R.fits
  dsimp only
  apply wp_if_neg (by simp [byScan, Value.scannable])
  try (apply wpAny_bind; apply wpAny_pure)
  apply wpAny_bind
  apply seek_all R mine few
  · intro m i
    exact wpAny_pure (h (some i) (by rw [decide_eq_true m]; rfl))
  · intro m j
    exact wpAny_pure (h none (by rw [decide_eq_false m]; rfl))
theorem holds_tup (neg : Bool) {x : Addr} {k : List Int} (R : SetTR P w s.heap a L es ep t) (mine : IsT P w s.heap k x) (few : A.units + 64 < cLine) {Q : Value → Shared → Prop} (h : ∀ tk, Q (.bool (if neg = true then !decide (k ∈ L.map (·.2)) else decide (k ∈ L.map (·.2)))) { s with toks := tk }) :
    wpAny (model P w) A (compareOp (if neg = true then .NotIn else .In) (.ref x) (.ref a)) Q E s := by
  have isSet : s.TypeIs (.ref a) "set" := by
    obtain ⟨ob, got, exact_, _⟩ := R.ob
    exact ⟨ob, got, exact_.1⟩
  have core : ∀ {Q' : Bool → Shared → Prop}, (∀ tk, Q' (decide (k ∈ L.map (·.2))) { s with toks := tk }) → wpAny (model P w) A (contains (.ref a) (.ref x)) Q' E s := by
    intro Q' h'
    unfold contains
    try with_reducible apply wpAny_holding
    apply wpAny_bind
    apply wpAny_specialOf isSet F.slot_set_contains.lookup
    show wpAny _ _ (if (some (Value.builtin "set.__contains__") == some Value.none) = true then _ else _) _ E s
    rw [if_neg (by rw [beq_builtin_none]; decide)]
    apply wpAny_bind
    apply wpAny_callSpecialUnlessNone?_slot (name := Str.ofString "__contains__") isSet F.slot_set_contains
    apply wpAny_call_entry F.slot_set_contains isSet entry_set_contains ?_ (F.args_set_contains_2 _ _)
    unfold Builtin.«frozenset.__contains__» Builtin.Frozenset.oneOther
    simp only [List.isEmpty_nil, bind_assoc]
    unfold Builtin.Frozenset.addrOf Builtin.Frozenset.withSetAsKey setContains
    apply wpAny_bind
    apply wpAny_pure
    try dsimp only
    apply wpAny_bind
    apply wpAny_pure
    try dsimp only
    apply wpAny_bind
    apply wpAny_tryCatch
    apply wpAny_holding
    apply wpAny_bind
    apply wpAny_pyHash_tuple ?_ mine
    apply wpAny_bind
    apply find_tup (s := { s with toks := s.toks + (k.length + 1) }) R mine ?_
    · intro r er
      apply wpAny_pure
      show wpAny _ _ (ret (Value.bool r.isSome)) _ _ _
      rw [er]
      exact wpAny_pure ⟨_, rfl, wpAny_truthy_bool (h' _)⟩
    all_goals (show A.units + 1 < cLine; omega)
  cases neg with
  | true =>
    show wpAny _ _ (do return .bool (!(← contains (.ref a) (.ref x)))) Q E s
    apply wpAny_bind
    exact core fun tk => wpAny_pure (h tk)
  | false =>
    show wpAny _ _ (do return .bool (← contains (.ref a) (.ref x))) Q E s
    apply wpAny_bind
    exact core fun tk => wpAny_pure (h tk)
end
section
variable {X : Cx}
/-- x in s, s a set of tuples of ints -/
def rInSetT (neg : Bool) (K : PySem.W.Frag) (P : Program) (w : World) : R2 := fun x y H Q => ∃ (b a : Addr) (k : List Int) (L : List (Addr × List Int)), x = .ref b ∧ y = .ref a ∧ SqT K H b (k.map V.int) ∧ H a = some (SetTO P w a L) ∧ (∀ q ∈ L, SqT K H q.1 (q.2.map V.int)) ∧ Q (.bl (if neg = true then !decide (k ∈ L.map (·.2)) else decide (k ∈ L.map (·.2)))) H
theorem or_setT (neg : Bool) (hu : X.A.units + 64 < cLine) : OpR X (compareOp (if neg = true then .NotIn else .In)) (rInSetT neg X.K X.prog X.w) := by
  intro pins s σ H x y v u Q I rx ry h
  obtain ⟨b, a, k, L, rfl, rfl, tup, isSet, rows, q⟩ := h
  cases rx
  cases ry
  have R0 : SetT0 X.prog X.w s.heap a L := (I.hok a _ isSet).1
  obtain ⟨es, ep, t, R⟩ := R0.full fun p hp => I.isT (rows p hp)
  exact holds_tup neg R (I.isT tup) hu fun tk => ⟨.bl _, H, I.tok tk, rfl, q⟩
theorem op_inSetT (hu : X.A.units + 64 < cLine) : OpR X (compareOp .In) (rInSetT false X.K X.prog X.w) := or_setT false hu
theorem op_notInSetT (hu : X.A.units + 64 < cLine) : OpR X (compareOp .NotIn) (rInSetT true X.K X.prog X.w) := or_setT true hu
end
end L2

set_option Elab.async false
set_option maxRecDepth 100000
set_option maxHeartbeats 4000000
namespace L2
open PySem PySem.Spec PyProof.Rows
set_option linter.unusedVariables false
/-! data in which dicts with tuple keys may stand -/
def keyD1 : Key → PyData
  | .inl i => .int i
  | .inr s => .str s
def keyD (k : List Key) : PyData := .tuple (k.map keyD1)
mutual
inductive DX (K : PySem.W.Frag) (H : Hp) : V → PyData → Prop
  | flat {v : V} {d : PyData} : Dp K H v d → d.hasDict = false → DX K H v d
  | lst {a : Addr} {xs : List V} {ds : List PyData} : SqL K H a xs → DXs K H xs ds → DX K H (.ref a) (.list ds)
  | tup {a : Addr} {xs : List V} {ds : List PyData} : SqT K H a xs → DXs K H xs ds → DX K H (.ref a) (.tuple ds)
  | dic {a : Addr} {kvs : List (List Key × V)} {vs : List V} {ds : List PyData} {es : List (PyData × PyData)} : H a = some (.dT kvs) → vs = kvs.map (·.2) → DXs K H vs ds → es.map (·.1) = kvs.map (fun kv => keyD kv.1) → es.map (·.2) = ds → DX K H (.ref a) (.dict es)
inductive DXs (K : PySem.W.Frag) (H : Hp) : List V → List PyData → Prop
  | nil : DXs K H [] []
  | cons {v : V} {vs : List V} {d : PyData} {ds : List PyData} : DX K H v d → DXs K H vs ds → DXs K H (v :: vs) (d :: ds)
end
theorem keyD1_dp {K : PySem.W.Frag} {H : Hp} : ∀ k : List Key, DpAll K H (k.map kV) (k.map keyD1)
  | [] => .nil
  | .inl i :: k => .cons (.int i) (keyD1_dp k)
  | .inr s :: k => .cons (.str s) (keyD1_dp k)
theorem keyD1_no : ∀ k : List Key, PyData.hasDictAll (k.map keyD1) = false
  | [] => rfl
  | .inl i :: k => by
    show (false || PyData.hasDictAll (k.map keyD1)) = false
    rw [keyD1_no k]
    rfl
  | .inr s :: k => by
    show (false || PyData.hasDictAll (k.map keyD1)) = false
    rw [keyD1_no k]
    rfl
section
variable {X : Cx} {pins : List (Addr × Obj)} {σ : L2.St} {H : Hp} {s : Shared}
/-- what may be shown of a value -/
def Shw (P : Program) (w : World) (h : Heap) (u : Value) (d : PyData) : Prop := (∃ as, Reads h u d as) ∧ (d.showable = true → d.shown.length ≤ sizeLine → ∃ bs, ReadAtMost h d.depth bs ∧ ReprK P w bs h d.depth u d.shown)
def ShwS (P : Program) (w : World) (h : Heap) (us : List Value) (ds : List PyData) : Prop := (∃ as, ReadsAll h us ds as) ∧ (PyData.showableAll ds = true → (∀ t ∈ PyData.shownAll ds, t.length ≤ sizeLine) → ∃ bs, ReadAtMost h (PyData.depthAll ds) bs ∧ ReprAllK P w bs h (PyData.depthAll ds) us (PyData.shownAll ds))
theorem shw_nil {P : Program} {w : World} {h : Heap} : ShwS P w h [] [] := ⟨⟨_, .nil⟩, fun _ _ => ⟨[], fun _ m => (nomatch m), by rw [PyData.shownAll]; exact .nil⟩⟩
theorem shw_cons {P : Program} {w : World} {h : Heap} {u : Value} {us : List Value} {d : PyData} {ds : List PyData} (a : Shw P w h u d) (b : ShwS P w h us ds) : ShwS P w h (u :: us) (d :: ds) := by
  obtain ⟨⟨as, ra⟩, ga⟩ := a
  obtain ⟨⟨bs, rb⟩, gb⟩ := b
  refine ⟨⟨_, .cons ra rb⟩, fun hs hz => ?_⟩
  rw [PyData.showableAll, Bool.and_eq_true] at hs
  rw [PyData.shownAll] at hz
  obtain ⟨p, p1, p2⟩ := ga hs.1 (hz _ List.mem_cons_self)
  obtain ⟨q, q1, q2⟩ := gb hs.2 fun t m => hz t (List.mem_cons_of_mem _ m)
  rw [PyData.depthAll, PyData.shownAll]
  exact ⟨p ++ q, (p1.mono (Nat.le_max_left _ _)).append (q1.mono (Nat.le_max_right _ _)), .cons ((p2.more fun _ m => List.mem_append_left _ m).level_le (Nat.le_max_left _ _)) (q2.more_le (fun _ m => List.mem_append_right _ m) (Nat.le_max_right _ _))⟩
theorem shw_seq {P : Program} {w : World} {h : Heap} {u : Value} {d : PyData} {as : List Addr} (r : Reads h u d as) (n : d.hasDict = false) : Shw P w h u d := ⟨⟨as, r⟩, fun hs hz => ReprK.of_reads r hs (PyData.noDict_hsm n) hz⟩
theorem shw_lst {P : Program} {w : World} {h : Heap} {a : Addr} {o : Obj} {its : Array Value} {n : Nat} {ds : List PyData} (ha : h.get? a = some o) (hc : o.cls = .type "list") (hd : o.data = .seq its n) (g : ShwS P w h its.toList ds) : Shw P w h (.ref a) (.list ds) := by
  obtain ⟨⟨as, ra⟩, g⟩ := g
  have rd : Reads h (.ref a) (.list ds) _ := .list ha hc hd ra
  refine ⟨⟨_, rd⟩, fun hs hz => ?_⟩
  rw [PyData.showable] at hs
  rw [PyData.shown] at hz ⊢
  obtain ⟨bs, b1, b2⟩ := g hs fun t m => Nat.le_trans (listText_mem_le m) hz
  have out : a ∉ bs := not_mem_of_deeper rd (by rw [PyData.depth]; omega) b1
  refine ⟨a :: bs, b1.cons rd (by rw [PyData.depth]; omega), ?_⟩
  rw [PyData.depth]
  obtain ⟨l⟩ := its
  cases l with
  | nil =>
    cases ra
    rw [PyData.shownAll, listText_nil]
    exact .listEmpty ha hc hd
  | cons x l => exact .list ha hc hd out (by simpa using b2.length_eq) fun i y e => b2.item i y (by simpa using e)
theorem shw_tup {P : Program} {w : World} {h : Heap} {a : Addr} {o : Obj} {its : Array Value} {n : Nat} {ds : List PyData} (ha : h.get? a = some o) (hc : o.cls = .type "tuple") (hd : o.data = .seq its n) (g : ShwS P w h its.toList ds) : Shw P w h (.ref a) (.tuple ds) := by
  obtain ⟨⟨as, ra⟩, g⟩ := g
  have rd : Reads h (.ref a) (.tuple ds) _ := .tuple ha hc hd ra
  refine ⟨⟨_, rd⟩, fun hs hz => ?_⟩
  rw [PyData.showable] at hs
  rw [PyData.shown] at hz ⊢
  obtain ⟨bs, b1, b2⟩ := g hs fun t m => Nat.le_trans (tupleText_mem_le m) hz
  refine ⟨a :: bs, b1.cons rd (by rw [PyData.depth]; omega), ?_⟩
  rw [PyData.depth]
  exact .tuple ha hc hd (not_mem_of_deeper rd (by rw [PyData.depth]; omega) b1) b2
theorem shw_dic {P : Program} {w : World} {h : Heap} {a : Addr} {o : Obj} {es : Array DictEntry} {n : Nat} {kvs : List (PyData × PyData)} (ha : h.get? a = some o) (hc : o.cls = .type "dict") (hd : o.data = .dict es n) (hy : (a == sysModules) = false) (gk : ShwS P w h (es.toList.map (·.key)) (kvs.map (·.1))) (gv : ShwS P w h (es.toList.map (·.val)) (kvs.map (·.2))) : Shw P w h (.ref a) (.dict kvs) := by
  obtain ⟨⟨as, ra⟩, gk⟩ := gk
  obtain ⟨⟨bs, rb⟩, gv⟩ := gv
  have rd : Reads h (.ref a) (.dict kvs) _ := .dict ha hc hd ra rb
  refine ⟨⟨_, rd⟩, fun hs hz => ?_⟩
  rw [PyData.showable] at hs
  rw [PyData.shown] at hz ⊢
  obtain ⟨s1, s2⟩ := PyData.showableKv_split kvs hs
  obtain ⟨p, p1, p2⟩ := gk s1 fun t m => by
    obtain ⟨x, x1, x2⟩ := PyData.shownKv_key_le kvs t m
    exact Nat.le_trans x2 (Nat.le_trans (dictText_mem_le x1) hz)
  obtain ⟨q, q1, q2⟩ := gv s2 fun t m => by
    obtain ⟨x, x1, x2⟩ := PyData.shownKv_val_le kvs t m
    exact Nat.le_trans x2 (Nat.le_trans (dictText_mem_le x1) hz)
  have pq : ReadAtMost h (PyData.depthKv kvs) (p ++ q) := (p1.mono (PyData.depthAll_keys_le kvs)).append (q1.mono (PyData.depthAll_vals_le kvs))
  refine ⟨a :: (p ++ q), pq.cons rd (by rw [PyData.depth]; omega), ?_⟩
  rw [PyData.depth, PyData.shownKv_eq]
  exact .dict ha hc hd hy (not_mem_of_deeper rd (by rw [PyData.depth]; omega) pq) (.of_two es.toList _ _ (p2.more_le (fun _ m => List.mem_append_left _ m) (PyData.depthAll_keys_le kvs)) (q2.more_le (fun _ m => List.mem_append_right _ m) (PyData.depthAll_vals_le kvs)))
theorem dpAll_shw (I : Inv X pins σ H s) : ∀ (ds : List PyData) (vs : List V) (us : List Value), DpAll X.K H vs ds → Vals vs us → PyData.hasDictAll ds = false → ShwS X.prog X.w s.heap us ds
  | [], _, _, h, r, _ => by
    cases h
    cases r
    exact shw_nil
  | d :: ds, _, _, h, r, n => by
    cases h with
    | cons h1 h2 =>
      cases r with
      | cons r1 r2 =>
        rw [PyData.hasDictAll, Bool.or_eq_false_iff] at n
        obtain ⟨as, q⟩ := Dp.reads I d _ _ h1 r1
        exact shw_cons (shw_seq q n.1) (dpAll_shw I ds _ _ h2 r2 n.2)
mutual
theorem DX.shw (I : Inv X pins σ H s) : ∀ {v : V} {d : PyData}, DX X.K H v d → ∀ u : Value, RelV v u → Shw X.prog X.w s.heap u d
  | _, _, .flat h n, u, r => by
    obtain ⟨as, q⟩ := Dp.reads I _ _ _ h r
    exact shw_seq q n
  | _, _, .lst hq g, u, r => by
    obtain rfl : u = Value.ref _ := r
    obtain ⟨its, rv, ⟨o, n, ho, hc, _, hd⟩, _⟩ := I.list hq
    exact shw_lst ho hc hd (DXs.shw I g its rv)
  | _, _, .tup hq g, u, r => by
    obtain rfl : u = Value.ref _ := r
    obtain ⟨its, rv, ⟨o, ho, hc, n, hd⟩, _⟩ := I.tuple hq
    exact shw_tup ho hc hd (DXs.shw I g its rv)
  | _, _, .dic (a := a) (kvs := kvs) (es := eds) ha ev g ek ed, u, r => by
    obtain rfl : u = Value.ref a := r
    obtain ⟨hz, hy, xs, pairs, o, es, ep, ho, hx, hdt, rows, nd⟩ := (show ObjOk X.prog X.w H s.heap a (.dT kvs) from I.hok _ _ ha)
    have hvals : Vals (kvs.map (·.2)) (es.toList.map (·.val)) := by
      rw [rows]
      clear rows nd g ev ek ha hz
      induction pairs with
      | nil => exact .nil
      | cons p _ ih => exact .cons p.2.2 ih
    have hkeys : ∀ (ks : List (List Key × V)) (ys : List (List Key × Addr × Value)), Paired (fun (p : List Key × V) (q : List Key × Addr × Value) => p.1 = q.1 ∧ H q.2.1 = some (.tup (p.1.map kV)) ∧ RelV p.2 q.2.2) ks ys → ShwS X.prog X.w s.heap ((ys.map (entryOfKey (tupleKind (mixKind X.prog X.w)))).map (·.key)) (ks.map fun kv => keyD kv.1) := fun ks ys p => by
      induction p with
      | nil => exact shw_nil
      | @cons k y ks ys p _ ih =>
        obtain ⟨as, q⟩ := Dp.reads I (keyD k.1) (.ref y.2.1) (.ref y.2.1) (.tup (SqT.of p.2.1) (keyD1_dp k.1)) rfl
        exact shw_cons (shw_seq q (by unfold keyD; rw [PyData.hasDict]; exact keyD1_no _)) ih
    refine shw_dic ho hx.1 hdt hy ?_ ?_
    · rw [ek, rows]
      exact hkeys kvs xs pairs
    · rw [ed]
      exact DXs.shw I g _ (ev ▸ hvals)
theorem DXs.shw (I : Inv X pins σ H s) : ∀ {vs : List V} {ds : List PyData}, DXs X.K H vs ds → ∀ us : List Value, Vals vs us → ShwS X.prog X.w s.heap us ds
  | _, _, .nil, us, r => by
    cases r
    exact shw_nil
  | _, _, .cons g gs, us, r => by
    cases r with
    | cons r1 r2 => exact shw_cons (DX.shw I g _ r1) (DXs.shw I gs _ r2)
end
/-- repr of a tuple in which dicts may stand -/
def rReprX (K : PySem.W.Frag) : List V → Hp → VK → Prop := fun xs H Q => ∃ (a : Addr) (vs : List V) (ds : List PyData), xs = [.ref a] ∧ SqT K H a vs ∧ DXs K H vs ds ∧ (PyData.tuple ds).showable = true ∧ (PyData.tuple ds).depth ≤ 40 ∧ (PyData.tuple ds).shown.length ≤ sizeLine ∧ Q (.str (PyData.tuple ds).shown) H
theorem call_reprX (hg : X.A.guards = some []) (hu : X.A.units + 64 < cLine) : CallR X (.builtin "repr") (rReprX X.K) := by
  intro pins s σ H xs us Q I r h
  obtain ⟨a, vs, ds, rfl, hq, g, hs, hd, hz, q⟩ := h
  obtain rfl := Vals.ref1 r
  obtain ⟨its, rv, ⟨o, ho, hc, n, hdd⟩, _⟩ := I.tuple hq
  obtain ⟨⟨as, ra⟩, gg⟩ := DXs.shw I g its rv
  have rd : Reads s.heap (.ref a) (.tuple ds) _ := .tuple ho hc hdd ra
  rw [PyData.showable] at hs
  rw [PyData.shown] at hz q
  rw [PyData.depth] at hd
  obtain ⟨bs, b1, b2⟩ := gg hs fun t m => Nat.le_trans (tupleText_mem_le m) hz
  have out : a ∉ bs := not_mem_of_deeper rd (by rw [PyData.depth]; omega) b1
  refine call_repr_slot (T := "tuple") (idr := "tuple.__repr__") (by omega) ⟨o, ho, hc⟩ F.slot_tuple_repr ?_
  exact call_tuple_reprK ho hc hdd out b2 (g := []) hg (fun b _ => Clear.nil b) (by show X.A.units + 1 + (PyData.depthAll ds + 1) < cLine; omega) (fun _ _ e => e) (fun h' u tk hk => ⟨_, _, rfl, .str _, H, I.kept (t' := tk) hk, ⟨_, rfl⟩, q⟩) hz
end
end L2

set_option Elab.async false
set_option maxRecDepth 100000
set_option maxHeartbeats 4000000
namespace L2
open PySem PySem.Spec PyProof.Rows
set_option linter.unusedVariables false
/-! dict(d) and d.pop(k) of a dict whose keys are pairs of small numbers -/
def hI (a b : Nat) : Int := reduceHash (Builtin.Tuple.tupleHashOf [hashInt ((a : Nat) : Int), hashInt ((b : Nat) : Int)])
theorem hI_all : ((List.range 400).map fun i => hI (i / 20) (i % 20)).Pairwise (· ≠ ·) := by decide +kernel
theorem hI_inj {a b c d : Nat} (ha : a < 20) (hb : b < 20) (hc : c < 20) (hd : d < 20) (h : hI a b = hI c d) : a = c ∧ b = d := by
  have key : ∀ {a b c d : Nat}, a < 20 → b < 20 → c < 20 → d < 20 → 20 * a + b < 20 * c + d → hI a b ≠ hI c d := fun {a b c d} ha hb hc hd hl => by
    have h1 := List.pairwise_iff_getElem.mp hI_all (20 * a + b) (20 * c + d) (by rw [List.length_map, List.length_range]; omega) (by rw [List.length_map, List.length_range]; omega) hl
    rw [List.getElem_map, List.getElem_map, List.getElem_range, List.getElem_range] at h1
    rw [show (20 * a + b) / 20 = a by omega, show (20 * a + b) % 20 = b by omega, show (20 * c + d) / 20 = c by omega, show (20 * c + d) % 20 = d by omega] at h1
    exact h1
  rcases Nat.lt_trichotomy (20 * a + b) (20 * c + d) with g | g | g
  · exact absurd h (key ha hb hc hd g)
  · omega
  · exact absurd h.symm (key hc hd ha hb g)
def smallK (k : List Key) : Prop := ∃ a b : Nat, a < 20 ∧ b < 20 ∧ k = [.inl (a : Int), .inl (b : Int)]
section
variable {prog : Program} {w : World} {A : Around} {E : Value → Shared → Prop} {s : Shared}
theorem smallK_hash {a b : Nat} : (tupleKind (mixKind prog w)).hash [.inl (a : Int), .inl (b : Int)] = hI a b := rfl
theorem small_nodup : ∀ {ks : List (List Key)}, (∀ k ∈ ks, smallK k) → ks.Nodup → (ks.map fun k => (tupleKind (mixKind prog w)).hash k).Nodup
  | [], _, _ => List.nodup_nil
  | k :: ks, h, n => by
    rw [List.nodup_cons] at n
    rw [List.map_cons, List.nodup_cons]
    refine ⟨fun m => ?_, small_nodup (fun x hx => h x (List.mem_cons_of_mem _ hx)) n.2⟩
    obtain ⟨k2, hk2, e⟩ := List.mem_map.mp m
    obtain ⟨a, b, ha, hb, rfl⟩ := h k List.mem_cons_self
    obtain ⟨c, d, hc, hd, rfl⟩ := h k2 (List.mem_cons_of_mem _ hk2)
    have e : hI c d = hI a b := e
    obtain ⟨rfl, rfl⟩ := hI_inj hc hd ha hb e
    exact n.1 hk2
theorem call_dictH {o : Addr} {more : List (List Key × Addr × Value)} {Q : Value → Shared → Prop} (hu : (tupleKind (mixKind prog w)).room A.in1.in1) (hoS : (o == sysModules) = false) (ho : s.heap.DictOfH (tupleKind (mixKind prog w)) o more) (hsz : more.length ≤ sizeLine)
    (hty : ∀ x ∈ more, s.TypeIs (.ref x.2.1) "tuple") (hap : (more.map fun x => (tupleKind (mixKind prog w)).hash x.1).Nodup)
    (h : ∀ h', h'.DictOfH (tupleKind (mixKind prog w)) s.heap.objs.size more → Heap.SameBut s.heap.objs.size (s.heap.push { cls := .type "dict", data := .dict #[] }) h' → Q (.ref s.heap.objs.size) { s with heap := h' }) :
    wpAny (model prog w) A (call (.type "dict") [.ref o]) Q E s := by
  refine callType_codes (Q₁ := fun obj s₁ => obj = .ref s.heap.objs.size ∧ s₁ = { s with heap := s.heap.push { cls := .type "dict", data := .dict #[] } }) F.kt_called_dict (F.kt_typeCall_dict_1 _) F.entry_dict_init (kt_code_dict_new _ ⟨rfl, rfl⟩) ?_
  rintro obj s₁ ⟨rfl, rfl⟩
  have hnew : (s.heap.push { cls := .type "dict", data := .dict #[] }).DictOfH (tupleKind (mixKind prog w)) s.heap.objs.size [] :=
    ⟨_, #[], 0, Heap.get?_push_size _ rfl, ⟨rfl, rfl, rfl⟩, rfl, rfl, (fun _ hx => nomatch hx), List.nodup_nil⟩
  have hdo : s.heap.objs.size ≠ o := by
    obtain ⟨_, _, _, hg, _⟩ := ho
    exact fun e => absurd (Heap.lt_size hg) (by rw [e]; exact Nat.lt_irrefl _)
  have ho' : (s.heap.push { cls := .type "dict", data := .dict #[] }).DictOfH (tupleKind (mixKind prog w)) o more := by
    obtain ⟨ob, es, ep, h1, h2, h3, h4, h5, h6⟩ := ho
    refine ⟨ob, es, ep, Heap.get?_push_of_some _ h1, h2, h3, h4, fun x hx => ?_, h6⟩
    obtain ⟨o1, its, n, q1, q2, q3, q4⟩ := (show IsTupleKey (mixKind prog w) s.heap x.1 x.2.1 from h5 x hx)
    exact ⟨o1, its, n, Heap.get?_push_of_some _ q1, q2, q3, q4⟩
  have hn : (more.map (·.1)).Nodup := ho.nodup
  have ty' : ∀ x ∈ more, ({ s with heap := s.heap.push { cls := .type "dict", data := .dict #[] } } : Shared).TypeIs (.ref x.2.1) "tuple" := fun x hx => by
    obtain ⟨o1, q1, q2⟩ := hty x hx
    exact ⟨o1, Heap.get?_push_of_some _ q1, q2⟩
  have hnt : ({ s with heap := s.heap.push { cls := .type "dict", data := .dict #[] } } : Shared).TypeIs (.ref s.heap.objs.size) "dict" := ⟨_, Heap.get?_push_size _ rfl, rfl⟩
  refine ⟨hnt, F.args_dict_init_2 _ _, ?_⟩
  unfold Builtin.«dict.__init__»
  refine wpAny_bind ?_
  unfold Builtin.Dict.selfAndRest
  refine wpAny_bind (wpAny_notOrdered_dict hnt ?_)
  show wpAny _ _ (pure (s.heap.objs.size, [Value.ref o])) _ _ _
  refine wpAny_pure ?_
  show wpAny _ _ (Builtin.Dict.updateFrom "dict.__init__" s.heap.objs.size (.ref o) [] .none) _ _ _
  unfold Builtin.Dict.updateFrom
  refine wpAny_bind (wpAny_typeOf (s := { s with heap := s.heap.push { cls := .type "dict", data := .dict #[] } }) ho'.typeIs ?_)
  rw [if_neg (by decide)]
  refine wpAny_bind ?_
  unfold Builtin.Dict.merge
  refine wpAny_bind ?_
  unfold Builtin.Dict.readDirectly
  refine wpAny_bind (wpAny_isInstance (s := { s with heap := s.heap.push { cls := .type "dict", data := .dict #[] } }) ho'.typeIs isSubtype_dict_dict ?_)
  simp only [Bool.not_true, Bool.false_eq_true, if_false]
  refine wpAny_bind (wpAny_specialOf (s := { s with heap := s.heap.push { cls := .type "dict", data := .dict #[] } }) ho'.typeIs F.slot_dict_iter.lookup (wpAny_pure ?_))
  simp only [beq_self_eq_true, if_true]
  refine wpAny_bind (wpAny_pure ?_)
  refine wpAny_mergeDict_heap (s := { s with heap := s.heap.push { cls := .type "dict", data := .dict #[] } }) (hsz := by simpa using hsz) hu hdo hoS hnew ho' (.inr ⟨ty', hap⟩) fun h' hd' _ hs' => ?_
  show wpAny _ _ (Builtin.Dict.addKeywords s.heap.objs.size [] >>= _) _ _ _
  rw [storedAllH_nil_of_nodup more hn] at hd'
  exact wpAny_bind (wpAny_pure (wpAny_pure ⟨rfl, h h' hd' hs'⟩))
end
/-- dict(d): a copy -/
def rDictT : List V → Hp → VK → Prop := fun xs H Q => ∃ (a : Addr) (kvs : List (List Key × V)), xs = [.ref a] ∧ Rd H a (.dT kvs) ∧ (∀ kv ∈ kvs, smallK kv.1) ∧ ∀ p, H p = none → Q (.ref p) (upd H p (.dT kvs))
theorem KT.keysEq {H : Hp} : ∀ {kvs : List (List Key × V)} {xs : List (List Key × Addr × Value)}, KT H kvs xs → xs.map (·.1) = kvs.map (·.1)
  | _, _, .nil => rfl
  | _, _, .cons h t => by
    rw [List.map_cons, List.map_cons, KT.keysEq t, h.1]
theorem call_dict_dT {X : Cx} (hu : X.A.units + 2 < cLine) : CallR X (.type "dict") rDictT := by
  intro pins s σ H xs us Q I r q
  obtain ⟨a, kvs, ex, hd, hk, q⟩ := q
  subst ex
  obtain ⟨u, eu, rx⟩ := vals1 r
  subst eu
  cases rx
  obtain ⟨z, lo, xs, rel, dd⟩ := dt_rd I.hok hd
  have ek := KT.keysEq rel
  have hall : ∀ k ∈ xs.map (·.1), smallK k := fun k hkm => by
    rw [ek] at hkm
    obtain ⟨kv, hkv, rfl⟩ := List.mem_map.mp hkm
    exact hk kv hkv
  have hn : (xs.map (·.1)).Nodup := dd.nodup
  have hap := small_nodup (prog := X.prog) (w := X.w) hall hn
  rw [List.map_map] at hap
  have hst : ∀ x ∈ xs, (tupleKind (mixKind X.prog X.w)).is s.heap x.1 x.2.1 := by
    obtain ⟨o, es, ep, h1, h2, h3, h4, h5, h6⟩ := id dd
    exact h5
  refine call_dictH (show X.A.units + 2 < cLine from hu) lo dd (by rw [← Paired.length rel]; exact z) (fun x hx => ?_) hap fun h' d' hs => ?_
  · obtain ⟨o, its, n, h1, h2, _⟩ := (show IsTupleKey (mixKind X.prog X.w) s.heap x.1 x.2.1 from hst x hx)
    exact ⟨o, h1, h2⟩
  have hm : (s.heap.objs.size == sysModules) = false := beq_eq_false_iff_ne.mpr (Nat.ne_of_gt I.big)
  have hf := I.hok.fresh (Nat.le_refl _)
  obtain ⟨o, es, ep, h1, h2, h3, h4, h5, h6⟩ := d'
  exact ⟨.ref s.heap.objs.size, upd H s.heap.objs.size (.dT kvs), I.laid (t' := s.toks) (fun b u e => (hs.2 b (Nat.ne_of_lt (Heap.lt_size e))).trans (Heap.get?_push_of_some _ e)) (Nat.le_refl _)
    (show ObjOk X.prog X.w _ _ _ (.dT kvs) from ⟨z, hm, xs, rel.keeps (fun c ys ec => (by rw [upd_ne (ne_of_none ec hf)]; exact ec)), o, es, ep, h1, h2, h3, h4, h6⟩), rfl, q _ hf⟩
/-- d.pop(k), k a key -/
def rPop1T : V → List V → Hp → VK → Prop := fun x xs H Q => ∃ (a : Addr) (kvs : List (List Key × V)) (k : List Key) (b : Addr) (v : V), x = .ref a ∧ xs = [.ref b] ∧ H a = some (.dT kvs) ∧ H b = some (.tup (k.map kV)) ∧ valV kvs k = some v ∧ Q v (upd H a (.dT (dropK kvs k)))
theorem mt_pop1T {X : Cx} (hu : X.A.units + 1 < cLine) : MtR X "dict.pop" rPop1T := by
  intro pins s σ H x xs v us Q I rx rxs h
  obtain ⟨a, kvs, k, b, v0, rfl, rfl, ha, hb, ev, q⟩ := h
  cases rx
  obtain ⟨u1, rfl, r1⟩ := vals1 rxs
  cases r1
  obtain ⟨z, hd, xs', rel, dd⟩ := dt_of I.hok ha
  have hz : xs'.length ≤ sizeLine := by rw [← Paired.length rel]; exact z
  have r := rel.val k
  rw [ev] at r
  obtain ⟨p, hp, rv⟩ : ∃ p, atKey xs' k = some p ∧ RelV v0 p.2 := by
    cases ep : atKey xs' k with
    | none =>
      rw [ep] at r
      exact (show False from r).elim
    | some p =>
      rw [ep] at r
      exact ⟨p, rfl, r⟩
  refine call_pop_heap (hsz := hz) (.inl rfl) (PySem.F.args_dict_pop_2 _ _) (tupleKind_room_in1 hu) (key_of I.hok hb) hd dd hp fun h' dd' hs => ?_
  obtain ⟨o, es, ep, hq, h2, h3, h4, _, h5⟩ := dd'
  have I2 : Inv X pins σ (upd H a (.dT (dropK kvs k))) { s with heap := h', toks := s.toks + (tupleKind (mixKind X.prog X.w)).draws k } :=
    d_write I (by rw [ha]; exact True.intro) hs ⟨o, hq⟩ ⟨Nat.le_trans (dropK_le kvs k) z, hd, _, (DX.KT_drop k rel).keeps (fun c ys ec => (by rw [upd_ne (ne_of ec ha (fun z => nomatch z))]; exact ec)), o, es, ep, hq, h2, h3, h4, h5⟩
  exact ⟨v0, _, I2, rv, q⟩
end L2

set_option Elab.async false
set_option maxRecDepth 100000
set_option maxHeartbeats 4000000
namespace L2
open PySem PySem.Spec PyProof.Rows
set_option linter.unusedVariables false
/-! a key that is no tuple, among keys that are tuples -/
inductive OddKey : V → Value → PyData → Prop
  | non : OddKey .non .none .none
  | int {i : Int} {t : Tok} : OddKey (.int i) (.int i t) (.int i)
  | str {x : Str} {t : Tok} : PyData.strOk x = true → OddKey (.str x) (.str x t) (.str x)
theorem OddKey.carried {v : V} {u : Value} {d : PyData} (h : OddKey v u d) : carriedByValue u = true := by cases h <;> rfl
theorem OddKey.eqv {v : V} {u : Value} {d : PyData} (h : OddKey v u d) (k : List Key) : PyData.eqv (keyD k) d = false := by
  cases h <;> (unfold keyD; simp [PyData.eqv])
def IntK (k : List Key) : Prop := ∀ x ∈ k, ∃ i : Int, x = .inl i
theorem canLay_key : ∀ k : List Key, IntK k → PyData.canLayAll0 (k.map keyD1) = true
  | [], _ => rfl
  | x :: k, h => by
    obtain ⟨i, rfl⟩ := h x List.mem_cons_self
    rw [List.map_cons, PyData.canLayAll0, canLay_key k fun y hy => h y (List.mem_cons_of_mem _ hy)]
    simp [keyD1, PyData.canLay0]
theorem OddKey.lay {v : V} {u : Value} {d : PyData} (h : OddKey v u d) : PyData.canLay0 d = true ∧ d.depth = 0 := by
  cases h with
  | non => exact ⟨by simp [PyData.canLay0], by simp [PyData.depth]⟩
  | int => exact ⟨by simp [PyData.canLay0], by simp [PyData.depth]⟩
  | str o => exact ⟨by simpa [PyData.canLay0] using o, by simp [PyData.depth]⟩
section
variable {X : Cx} {pins : List (Addr × Obj)} {σ : L2.St} {H : Hp} {s : Shared}
theorem OddKey.reads {v : V} {u : Value} {d : PyData} (h : OddKey v u d) (hp : Heap) : Reads hp u d [] := by
  cases h
  · exact .none
  · exact .int _ _
  · exact .str _ _
theorem OddKey.quiet {A : Around} {E : Value → Shared → Prop} {v : V} {u : Value} {d : PyData} (h : OddKey v u d) {Q : Bool → Shared → Prop} (q : Q true s) : wpAny (model X.prog X.w) A (eqIsQuiet 8 u) Q E s := by
  cases h <;> (unfold eqIsQuiet; exact wpAny_pure q)
/-- it isn't there -/
theorem find_odd (I : Inv X pins σ H s) {A : Around} {E : Value → Shared → Prop} (hu : A.units < cLine) {d : Addr} {o : Obj} {es : Array DictEntry} {ep : Nat} {xs : List (List Key × Addr × Value)} {kvs : List (List Key × V)} (ho : s.heap.get? d = some o) (hd : o.data = .dict es ep) (he : es.toList = xs.map (entryOfKey (tupleKind (mixKind X.prog X.w)))) (rel : KT H kvs xs) (hi : ∀ kv ∈ kvs, IntK kv.1)
    {v : V} {key : Value} {dk : PyData} (hk : OddKey v key dk) (h : Int) {Q : Option Nat → Shared → Prop} (q : Q none s) : wpAny (model X.prog X.w) A (dictFind d key h) Q E s := by
  have hall : ∀ x ∈ xs, ∃ k : List Key, H x.2.1 = some (.tup (k.map kV)) ∧ IntK k := by
    clear he
    induction rel with
    | nil => exact fun x hx => nomatch hx
    | @cons p y ks ys r _ ih =>
      intro x hx
      rcases List.mem_cons.mp hx with rfl | hx
      · exact ⟨p.1, r.2.1, hi p List.mem_cons_self⟩
      · exact ih (fun kv hkv => hi kv (List.mem_cons_of_mem _ hkv)) x hx
  have hmem : ∀ (i : Nat) (e : DictEntry), es[i]? = some e → ∃ (b : Addr) (k : List Key), e.key = .ref b ∧ H b = some (.tup (k.map kV)) ∧ IntK k := by
    intro i e hi
    have : e ∈ xs.map (entryOfKey (tupleKind (mixKind X.prog X.w))) := he ▸ Array.mem_toList_iff.mpr (Array.mem_of_getElem? hi)
    obtain ⟨x, hx, rfl⟩ := List.mem_map.mp this
    obtain ⟨k, hk⟩ := hall x hx
    exact ⟨x.2.1, k, rfl, hk⟩
  have hst : ∀ v ∈ (placesWithHash es.size (fun i => es[i]?.map (·.hash)) h).filterMap (fun i => es[i]?.map (·.key)), ∃ (b : Addr) (k : List Key), v = .ref b ∧ H b = some (.tup (k.map kV)) ∧ IntK k := by
    intro v hv
    obtain ⟨i, _, hi⟩ := List.mem_filterMap.mp hv
    cases hei : es[i]? with
    | none => rw [hei] at hi; cases hi
    | some e =>
      rw [hei] at hi
      obtain rfl : e.key = v := by simpa using hi
      exact hmem i e hei
  have unlike : ∀ {Q : Bool → Shared → Prop} {E : Value → Shared → Prop} {b : Addr} {k : List Key}, H b = some (.tup (k.map kV)) ∧ IntK k → Q false s → wpAny (model X.prog X.w) A (eqBool (.ref b) key) Q E s := fun {Q E b k} hb hq => by
    obtain ⟨as, ra⟩ := Dp.reads I (keyD k) (.ref b) (.ref b) (.tup (SqT.of hb.1) (keyD1_dp k)) rfl
    refine PySem.SeqAt.eqBoolOverData _ _ A E s _ _ _ dk _ [] Q ra (hk.reads _) (by unfold keyD; rw [PyData.canLay0]; exact canLay_key k hb.2) hk.lay.1 (by rw [hk.lay.2]; omega) ?_
    rw [hk.eqv]
    exact hq
  have walk : wpAny (model X.prog X.w) A (dictWalkPlain d key h es (placesWithHash es.size (fun i => es[i]?.map (·.hash)) h)) Q E s := by
    unfold dictWalkPlain
    refine wpAny_bind ?_
    refine wpAny_forIn_list _ (fun rest b s' => s' = s ∧ b = (none, ())) _ ?_ ?_ _ _ ⟨rfl, rfl⟩
    · rintro x rest b s' ⟨rfl, rfl⟩
      cases hx : es[x]? with
      | none => exact wpAny_pure ⟨rfl, rfl⟩
      | some e =>
        obtain ⟨b, k, ek, hb⟩ := hmem x e hx
        dsimp only
        by_cases hh : (e.hash == h) = true
        · rw [if_pos hh]
          refine wpAny_bind (wpAny_dictEpoch ho hd (wpAny_bind ?_))
          rw [ek]
          refine unlike hb (wpAny_bind (wpAny_dictEpoch ho hd ?_))
          show wpAny _ _ (if (ep != ep) = true then _ else _) _ E _
          rw [if_neg (by simp)]
          simp only [Bool.false_eq_true, if_false]
          exact wpAny_bind (wpAny_rule (wpAny_pure ⟨rfl, rfl⟩))
        · rw [if_neg hh]
          exact wpAny_pure ⟨rfl, rfl⟩
    · rintro b s' ⟨rfl, rfl⟩
      exact wpAny_pure q
  have tells : ∀ {Q : Bool → Shared → Prop} {E : Value → Shared → Prop}, Q false s → wpAny (model X.prog X.w) A (tableMayTell key ((placesWithHash es.size (fun i => es[i]?.map (·.hash)) h).filterMap (fun i => es[i]?.map (·.key)))) Q E s := fun {Q E} hq => by
    unfold tableMayTell
    split
    · exact wpAny_pure hq
    · refine wpAny_bind (hk.quiet (X := X) ?_)
      simp only [Bool.not_true, Bool.false_eq_true, if_false]
      refine wpAny_bind ?_
      refine wpAny_forIn_list _ (fun rest r s' => s' = s ∧ r = (none, ()) ∧ ∀ v ∈ rest, ∃ (b : Addr) (k : List Key), v = .ref b ∧ H b = some (.tup (k.map kV)) ∧ IntK k) _ ?_ ?_ _ _ ⟨rfl, rfl, hst⟩
      · rintro x rest r s' ⟨rfl, rfl, hr⟩
        obtain ⟨b, k, rfl, hb⟩ := hr x List.mem_cons_self
        refine wpAny_bind ((tupleKind (mixKind X.prog X.w)).quiet (key_of I.hok hb.1) ?_)
        simp only [Bool.not_true, Bool.false_eq_true, if_false]
        exact wpAny_pure ⟨rfl, rfl, fun v hv => hr v (List.mem_cons_of_mem _ hv)⟩
      · rintro r s' ⟨rfl, rfl, _⟩
        exact wpAny_pure hq
  cases hk with
  | non =>
    unfold dictFind
    try with_reducible refine wpAny_holding ?_
    refine wpAny_bind (wpAny_dictEntries ho hd ?_)
    dsimp only
    by_cases hc : ((Value.none :: (placesWithHash es.size (fun i => es[i]?.map (·.hash)) h).filterMap (fun i => es[i]?.map (·.key))).all carriedByValue) = true
    · rw [if_pos hc]
      exact walk
    · rw [if_neg hc]
      have hne : ¬ (((placesWithHash es.size (fun i => es[i]?.map (·.hash)) h).filterMap (fun i => es[i]?.map (·.key))) == [Value.none]) = true := by
        intro e
        have e := eq_of_beq e
        obtain ⟨b, k, e2, _⟩ := hst Value.none (by rw [e]; exact List.mem_cons_self)
        cases e2
      rw [if_neg hne]
      refine wpAny_bind (tells ?_)
      simp only [Bool.false_and, Bool.false_eq_true, if_false]
      refine wpAny_bind ?_
      refine wpAny_forIn_list _ (fun rest b s' => s' = s ∧ b = (none, none)) _ ?_ ?_ _ _ ⟨rfl, rfl⟩
      · rintro x rest b s' ⟨rfl, rfl⟩
        cases hx : es[x]? with
        | none => exact wpAny_pure ⟨rfl, rfl⟩
        | some e =>
          obtain ⟨b, k, ek, hb⟩ := hmem x e hx
          dsimp only
          by_cases hh : (e.hash == h) = true
          · rw [if_pos hh]
            refine wpAny_bind (wpAny_dictEpoch ho hd (wpAny_bind ?_))
            rw [ek]
            refine unlike hb (wpAny_bind (wpAny_dictEpoch ho hd ?_))
            show wpAny _ _ (if (ep != ep) = true then _ else _) _ E _
            rw [if_neg (by simp)]
            simp only [Bool.false_eq_true, if_false]
            exact wpAny_bind (wpAny_rule (wpAny_pure ⟨rfl, rfl⟩))
          · rw [if_neg hh]
            exact wpAny_pure ⟨rfl, rfl⟩
      · rintro b s' ⟨rfl, rfl⟩
        exact wpAny_pure q
  | @int i t =>
    unfold dictFind
    try with_reducible refine wpAny_holding ?_
    refine wpAny_bind (wpAny_dictEntries ho hd ?_)
    dsimp only
    by_cases hc : ((Value.int i t :: (placesWithHash es.size (fun i => es[i]?.map (·.hash)) h).filterMap (fun i => es[i]?.map (·.key))).all carriedByValue) = true
    · rw [if_pos hc]
      exact walk
    · rw [if_neg hc]
      have hne : ¬ (((placesWithHash es.size (fun i => es[i]?.map (·.hash)) h).filterMap (fun i => es[i]?.map (·.key))) == [Value.int i t]) = true := by
        intro e
        have e := eq_of_beq e
        obtain ⟨b, k, e2, _⟩ := hst (Value.int i t) (by rw [e]; exact List.mem_cons_self)
        cases e2
      rw [if_neg hne]
      refine wpAny_bind (tells ?_)
      simp only [Bool.false_and, Bool.false_eq_true, if_false]
      refine wpAny_bind ?_
      refine wpAny_forIn_list _ (fun rest b s' => s' = s ∧ b = (none, none)) _ ?_ ?_ _ _ ⟨rfl, rfl⟩
      · rintro x rest b s' ⟨rfl, rfl⟩
        cases hx : es[x]? with
        | none => exact wpAny_pure ⟨rfl, rfl⟩
        | some e =>
          obtain ⟨b, k, ek, hb⟩ := hmem x e hx
          dsimp only
          by_cases hh : (e.hash == h) = true
          · rw [if_pos hh]
            refine wpAny_bind (wpAny_dictEpoch ho hd (wpAny_bind ?_))
            rw [ek]
            refine unlike hb (wpAny_bind (wpAny_dictEpoch ho hd ?_))
            show wpAny _ _ (if (ep != ep) = true then _ else _) _ E _
            rw [if_neg (by simp)]
            simp only [Bool.false_eq_true, if_false]
            exact wpAny_bind (wpAny_rule (wpAny_pure ⟨rfl, rfl⟩))
          · rw [if_neg hh]
            exact wpAny_pure ⟨rfl, rfl⟩
      · rintro b s' ⟨rfl, rfl⟩
        exact wpAny_pure q
  | @str x t ox =>
    unfold dictFind
    try with_reducible refine wpAny_holding ?_
    refine wpAny_bind (wpAny_dictEntries ho hd ?_)
    dsimp only
    by_cases hs : (es.all fun e => isExactStrKey e.key) = true
    · rw [if_pos hs]
      have h0 : es = #[] := by
        by_cases h1 : 0 < es.size
        · obtain ⟨b, k, ek, _⟩ := hmem 0 es[0] (Array.getElem?_eq_getElem h1)
          have := Array.all_eq_true.mp hs 0 h1
          rw [ek] at this
          cases this
        · exact Array.size_eq_zero_iff.mp (by omega)
      subst h0
      unfold foundByValue
      have e0 : (#[] : Array DictEntry).findIdx? (fun y => y.key.isStr x) = none := by simp
      rw [e0]
      exact wpAny_pure q
    · rw [if_neg hs]
      by_cases hc : ((Value.str x t :: (placesWithHash es.size (fun i => es[i]?.map (·.hash)) h).filterMap (fun i => es[i]?.map (·.key))).all carriedByValue) = true
      · rw [if_pos hc]
        exact walk
      · rw [if_neg hc]
        have hne : ¬ (((placesWithHash es.size (fun i => es[i]?.map (·.hash)) h).filterMap (fun i => es[i]?.map (·.key))) == [Value.str x t]) = true := by
          intro e
          have e := eq_of_beq e
          obtain ⟨b, k, e2, _⟩ := hst (Value.str x t) (by rw [e]; exact List.mem_cons_self)
          cases e2
        rw [if_neg hne]
        refine wpAny_bind (tells ?_)
        simp only [Bool.false_and, Bool.false_eq_true, if_false]
        refine wpAny_bind ?_
        refine wpAny_forIn_list _ (fun rest b s' => s' = s ∧ b = (none, none)) _ ?_ ?_ _ _ ⟨rfl, rfl⟩
        · rintro x rest b s' ⟨rfl, rfl⟩
          cases hx : es[x]? with
          | none => exact wpAny_pure ⟨rfl, rfl⟩
          | some e =>
            obtain ⟨b, k, ek, hb⟩ := hmem x e hx
            dsimp only
            by_cases hh : (e.hash == h) = true
            · rw [if_pos hh]
              refine wpAny_bind (wpAny_dictEpoch ho hd (wpAny_bind ?_))
              rw [ek]
              refine unlike hb (wpAny_bind (wpAny_dictEpoch ho hd ?_))
              show wpAny _ _ (if (ep != ep) = true then _ else _) _ E _
              rw [if_neg (by simp)]
              simp only [Bool.false_eq_true, if_false]
              exact wpAny_bind (wpAny_rule (wpAny_pure ⟨rfl, rfl⟩))
            · rw [if_neg hh]
              exact wpAny_pure ⟨rfl, rfl⟩
        · rintro b s' ⟨rfl, rfl⟩
          exact wpAny_pure q
/-- what may be put among keys that are tuples, and is none -/
def OddV (y : V) : Prop := y = .non ∨ (∃ i, y = .int i) ∨ ∃ x, y = .str x ∧ PyData.strOk x = true
theorem OddV.key {y : V} {u : Value} (h : OddV y) (r : RelV y u) : ∃ d, OddKey y u d := by
  rcases h with rfl | ⟨i, rfl⟩ | ⟨x, rfl, o⟩
  · cases (show u = Value.none from r)
    exact ⟨_, .non⟩
  · obtain ⟨t, rfl⟩ := r
    exact ⟨_, .int⟩
  · obtain ⟨t, rfl⟩ := r
    exact ⟨_, .str o⟩
theorem OddKey.hash {A : Around} {E : Value → Shared → Prop} {v : V} {u : Value} {d : PyData} (h : OddKey v u d) {Q : Int → Shared → Prop} (q : ∀ i, Q i { s with toks := s.toks + 1 }) : wpAny (model X.prog X.w) A (pyHash u) Q E s := by
  cases h with
  | non => exact pyHash_leaf (k := .none) rfl (q _)
  | @int i t => exact pyHash_leaf (k := .num i) (by simp [Leaf.isOf]) (q _)
  | @str x t o => exact pyHash_leaf (k := .text x) (by simp [Leaf.isOf, Value.isStrOf]) (q _)
/-- a dict of tuple keys in which one more key stands, at the end, that is none; its object is o -/
structure OddW (o : Obj) (H : Hp) (a : Addr) (kvs : List (List Key × V)) (k v : V) : Prop where
  at' : H a = some (.ext fun h => h.get? a = some o)
  ec : o.ExactDict
  ex : ∃ (es : Array DictEntry) (ep : Nat) (xs : List (List Key × Addr × Value)) (uk uv : Value), o.data = .dict es ep ∧ (a == sysModules) = false ∧ KT H kvs xs ∧ RelV k uk ∧ RelV v uv ∧
    es.toList.map (fun e => (e.key, e.val)) = xs.map (fun x => (Value.ref x.2.1, x.2.2)) ++ [(uk, uv)] ∧ es.size ≤ sizeLine
  key : OddV k
def OddAt (H : Hp) (a : Addr) (kvs : List (List Key × V)) (k v : V) : Prop := ∃ o, OddW o H a kvs k v
theorem OddW.mono {o : Obj} {H H' : Hp} {a : Addr} {kvs : List (List Key × V)} {k v : V} (h : OddW o H a kvs k v) (s : ∀ b u, H b = some u → H' b = some u) : OddW o H' a kvs k v := by
  obtain ⟨h1, h2, ⟨es, ep, xs, uk, uv, h3, h4, h5, h6⟩, h7⟩ := h
  exact ⟨s _ _ h1, h2, ⟨es, ep, xs, uk, uv, h3, h4, h5.keeps (fun c ys e => s _ _ e), h6⟩, h7⟩
theorem put_odd (I : Inv X pins σ H s) {A : Around} {E : Value → Shared → Prop} (hu : A.units + 1 < cLine) {a : Addr} {kvs : List (List Key × V)} {y v : V} {u r : Value} {Q : Unit → Shared → Prop} (ha : H a = some (.dT kvs)) (hi : ∀ kv ∈ kvs, IntK kv.1) (hz : kvs.length < sizeLine) (hy : OddV y) (ry : RelV y u) (rv : RelV v r)
    (q : ∀ φ s', OddAt (upd H a (.ext φ)) a kvs y v → Inv X pins σ (upd H a (.ext φ)) s' → Q () s') : wpAny (model X.prog X.w) A (setItem (.ref a) u r) Q E s := by
  obtain ⟨dk, hk⟩ := hy.key ry
  obtain ⟨z, hd, xs, rel, dd⟩ := dt_of I.hok ha
  obtain ⟨o, es, ep, ho, hc, hdat, he, his, hn⟩ := id dd
  have hty : s.TypeIs (.ref a) "dict" := ⟨o, ho, hc.1⟩
  have hes : es.size = kvs.length := by rw [size_of_entries he, ← Paired.length rel]
  unfold setItem
  try with_reducible refine wpAny_holding ?_
  refine wpAny_bind (wpAny_sequenceKey hty (by decide) ?_)
  refine wpAny_bind (wpAny_callSpecial?_slot (name := Str.ofString "__setitem__") hty PySem.slot_dict_setitem
    (wpAny_call_entry PySem.slot_dict_setitem hty PySem.entry_dict_setitem ?_ (PySem.args_dict_setitem _ _ _)))
  show wpAny _ _ (Builtin.Dict.notOrdered "__setitem__" ⟨[.ref a, u, r], []⟩ >>= _) _ _ s
  refine wpAny_bind (wpAny_notOrdered_dict hty ?_)
  show wpAny _ _ (dictSet a u r >>= _) _ _ s
  refine wpAny_bind ?_
  unfold dictSet
  try with_reducible refine wpAny_holding ?_
  refine wpAny_bind (hk.hash (X := X) fun hh => ?_)
  unfold dictSetHashed
  try with_reducible refine wpAny_holding ?_
  have I1 : Inv X pins σ H { s with toks := s.toks + 1 } := I.tok _
  refine wpAny_bind (find_odd I1 (show A.in1.units < cLine from by show A.units + 1 < cLine; exact hu) ho hdat he rel hi hk hh ?_)
  refine wpAny_bind (wpAny_rule (wpAny_updateDictKeys (s := { s with toks := s.toks + 1 }) (hz := by omega) ho hdat ?_))
  refine wpAny_pure ⟨.none, rfl, wpAny_pure ?_⟩
  have hg := Heap.get?_update_self (Obj.mapDictKeys fun es => es.push ⟨hh, u, r⟩) ho (Obj.isFreed_of_dict (Obj.data_mapDictKeys hdat _))
  have hs : Heap.SameBut a s.heap (s.heap.update a (Obj.mapDictKeys fun es => es.push ⟨hh, u, r⟩)) := Heap.SameBut.update ..
  refine q (fun h => h.get? a = some (Obj.mapDictKeys (fun es => es.push ⟨hh, u, r⟩) o)) _ ⟨_, upd_same, hc.mapDictKeys _, ⟨_, ep + 1, xs, u, r, Obj.data_mapDictKeys hdat _, hd, rel.keeps (fun c ys ec => by rw [upd_ne (ne_of ec ha (fun z => nomatch z))]; exact ec), ry, rv, ?_, ?_⟩, hy⟩ ?_
  · rw [Array.toList_push, List.map_append, he, List.map_map]
    rfl
  · rw [Array.size_push]
    omega
  · exact d_write (t' := s.toks + 1) I1 (by rw [ha]; exact True.intro) hs ⟨_, hg⟩ ⟨hg, ⟨_, hg⟩, fun h1 h2 e k => k _ e⟩
/-- as it lies -/
theorem OddW.entries (I : Inv X pins σ H s) {d : Addr} {o : Obj} {kvs : List (List Key × V)} {k v : V} (h : OddW o H d kvs k v) :
    (d == sysModules) = false ∧ ∃ (es : Array DictEntry) (ep : Nat), o.data = .dict es ep ∧ DT.Raw s.heap d es ep ∧ es.size = kvs.length + 1 ∧
      (∀ (i : Nat) (k : List Key) (v : V), kvs[i]? = some (k, v) → ∃ (hi : i < es.size) (q : Addr), es[i].key = .ref q ∧ H q = some (.tup (k.map kV)) ∧ RelV v es[i].val) ∧ ∃ hi : kvs.length < es.size, RelV k es[kvs.length].key ∧ RelV v es[kvs.length].val := by
  obtain ⟨h1, h2, ⟨es, ep, xs, uk, uv, h3, h4, h5, h6, h7, h8, h9⟩, hk⟩ := h
  have there : s.heap.get? d = some o := (show ObjOk X.prog X.w H s.heap d (.ext fun h => h.get? d = some o) from I.hok _ _ h1).1
  have l5 : kvs.length = xs.length := Paired.length h5
  have sizes : es.size = kvs.length + 1 := by
    have := congrArg List.length h8
    rw [List.length_map, List.length_append, List.length_map, Array.length_toList] at this
    simpa [l5] using this
  have at8 : ∀ (i : Nat) (hi : i < es.size), (es.toList.map (fun e => (e.key, e.val)))[i]? = some (es[i].key, es[i].val) := fun i hi => by
    rw [List.getElem?_map, Array.getElem?_toList, Array.getElem?_eq_getElem hi]
    rfl
  refine ⟨h4, es, ep, h3, ⟨o, there, h2, h3⟩, sizes, fun i k v e => ?_, by omega, ?_⟩
  · obtain ⟨b, hb, e1, e2, e3⟩ := paired_get h5 e
    have hi : i < es.size := by have := (List.getElem?_eq_some_iff.mp e).1; omega
    have q := at8 i hi
    rw [h8, List.getElem?_append_left (by rw [List.length_map]; exact (List.getElem?_eq_some_iff.mp hb).1), List.getElem?_map, hb] at q
    injection q with q
    injection q with q1 q2
    exact ⟨hi, b.2.1, q1.symm, e2, by rw [← q2]; exact e3⟩
  · have hi : kvs.length < es.size := by omega
    have q := at8 kvs.length hi
    rw [h8, List.getElem?_append_right (by rw [List.length_map]; omega), List.length_map, show kvs.length - xs.length = 0 by omega] at q
    injection q with q
    injection q with q1 q2
    exact ⟨by rw [← q1]; exact h6, by rw [← q2]; exact h7⟩
end
/-- the items of the odd dict at d -/
def ItO (o : Obj) (d : Addr) (kvs : List (List Key × V)) (k v : V) : It :=
  ⟨fun i H => OddW o H d kvs k v ∧ i < kvs.length + 1,
   fun i H x H' => ∃ (T : Addr) (a b : V), x = .ref T ∧ H T = none ∧ H' = upd H T (.tup [a, b]) ∧ ((∃ (q : Addr) (k' : List Key), kvs[i]? = some (k', b) ∧ H q = some (.tup (k'.map kV)) ∧ a = .ref q) ∨ (i = kvs.length ∧ a = k ∧ b = v)),
   fun i H => OddW o H d kvs k v ∧ kvs.length + 1 ≤ i⟩
theorem turn_itemsO {P : Program} {w : World} {K : PySem.W.Frag} {d : Addr} {o : Obj} {es : Array DictEntry} {ep : Nat} {kvs : List (List Key × V)} {k v : V} {elts : List Expr} {kk : Nat} {tpos : Pos} (it : Addr) (hod : o.data = .dict es ep) :
    Turn P w K (.Tuple elts kk tpos) (ItO o d kvs k v) [it] it (fun i h => ∃ ok ov, IsItemIter h it d i (kvs.length + 1) ep ok ov) where
  mem := by simp
  obj := fun i h ⟨ok, ov, e⟩ b hb => by
    rw [List.mem_singleton.mp hb]
    exact ⟨_, e, fun v z => nomatch z⟩
  keep := fun i h h' ⟨ok, ov, e⟩ k => ⟨ok, ov, k it (by simp) _ e⟩
  item := by
    rintro X rfl rfl rfl hc i pins s σ H E I hf ⟨ok, ov, he⟩ ⟨hd, hi⟩
    obtain ⟨_, es', ep', hdt, raw, hsz, ent, hlast, lk, lv⟩ := hd.entries I
    obtain ⟨rfl, rfl⟩ := dict_ep hod hdt
    have hi' : i < es'.size := by omega
    obtain ⟨a, b, ra, rb, hab⟩ : ∃ a b : V, RelV a es'[i].key ∧ RelV b es'[i].val ∧ ((∃ (q : Addr) (k' : List Key), kvs[i]? = some (k', b) ∧ H q = some (.tup (k'.map kV)) ∧ a = .ref q) ∨ (i = kvs.length ∧ a = k ∧ b = v)) := by
      by_cases c : i < kvs.length
      · obtain ⟨⟨k', v'⟩, hkv⟩ : ∃ p, kvs[i]? = some p := ⟨kvs[i], List.getElem?_eq_getElem c⟩
        obtain ⟨hi2, q, hkey, hq, rv⟩ := ent i k' v' hkv
        exact ⟨.ref q, v', hkey, rv, .inl ⟨q, k', hkv, hq, rfl⟩⟩
      · have e : i = kvs.length := by omega
        subst e
        exact ⟨k, v, lk, lv, .inr ⟨rfl, rfl, rfl⟩⟩
    rw [← hsz] at he
    have hlt : it < s.heap.objs.size := Heap.lt_size he
    refine DT.nextI he raw hi' fun h' out laid grown kept => ?_
    refine ⟨_, rfl, wpAny_letOwnedTupleGo_items (s := { s with heap := h' }) out fun h'' he' sb => ?_⟩
    have laid2 : h''.get? s.heap.objs.size = some { cls := .type "tuple", data := .seq #[es'[i].key, es'[i].val] } := (sb.2 _ (Nat.ne_of_gt hlt)).trans laid
    have pair : ObjOk X.prog X.w (upd H s.heap.objs.size (.tup [a, b])) h'' s.heap.objs.size (.tup [a, b]) :=
      ⟨by show 2 ≤ sizeLine; decide, [es'[i].key, es'[i].val], .cons ra (.cons rb .nil), ⟨_, laid2, rfl, _, rfl⟩⟩
    have I1 : Inv X pins σ (upd H s.heap.objs.size (.tup [a, b])) { s with heap := h'' } :=
      I.turnedNew (t' := s.toks) (ch := [it]) (fun b ob hb e => (sb.2 b (fun z => hb (List.mem_singleton.mpr z))).trans (kept b ob (fun z => hb (List.mem_singleton.mpr z)) e)) hf (Nat.le_refl _) pair
    refine ⟨.ref s.heap.objs.size, _, I1, rfl, ⟨_, a, b, rfl, I.hok.fresh (Nat.le_refl _), rfl, hab⟩, ⟨es'[i].key, es'[i].val, by rw [← hsz]; exact he'⟩, fun b hb => ?_⟩
    rw [List.mem_singleton.mp hb, upd_ne (Nat.ne_of_lt hlt)]
    exact (hf it (by simp)).1
  done := by
    rintro X rfl rfl rfl hc i pins s σ H E I hf ⟨ok, ov, he⟩ ⟨hd, hi⟩
    obtain ⟨f0, f1, f2, f3, f4, f5⟩ := hf it (by simp)
    obtain ⟨_, es', ep', hdt, raw, hsz, _⟩ := hd.entries I
    obtain ⟨rfl, rfl⟩ := dict_ep hod hdt
    rw [← hsz] at he
    exact DT.endI (I.ok.hd hc) he raw (by omega) fun h' eb => ⟨rfl, I.turned (t' := s.toks) (fun b ob hb e => eb b ob hb e) f0 f1 f3 f4 f5⟩
  self := fun A i s Q E ⟨_, _, e⟩ h => PySem.W.kcp_self e h
/-- for a, b in e.items(): e an odd dict -/
def iItemsO (td : TE) : TI := fun σ H R => td σ H fun x H1 => ∃ d o kvs k v, x = .ref d ∧ OddW o H1 d kvs k v ∧ R (ItO o d kvs k v) H1
theorem pi_itemsO {X : Cx} {e : Expr} {td : TE} {apos cpos : Pos} {elts : List Expr} {kk : Nat} {tpos : Pos} (he : PE X e td) (hbase : attributeBase e "items" X.env (eval e X.env) = eval e X.env := by rfl) (hline : (apos.endLine == cpos.line) = true := by rfl) :
    PI X (.Tuple elts kk tpos) (.Call (.Attribute e "items" apos) [] [] cpos) (iItemsO td) := by
  refine ⟨fun pins s σ H R I h => ?_⟩
  refine wpAny_Call_method (T := "dict") (id := "dict.items") hbase rfl hline F.plainAttrs_dict F.slot_dict_items F.type_dict_items (thn (he.run pins s σ H _ I h) fun u s1 ⟨x, H1, I1, rx, d, o, kvs, k, v, ex, hd, q⟩ => ?_)
  subst ex
  obtain rfl : u = Value.ref d := rx
  obtain ⟨notSys, es, ep, hdt, raw, hsz, ent, _⟩ := hd.entries I1
  refine ⟨raw.typeIs, fun b z => ?_, ?_⟩
  · cases z
    obtain ⟨ob, h1, h2, h3⟩ := raw
    exact ⟨ob, h1, h2.2.1⟩
  have I2 : Inv X pins σ H1 { s1 with heap := s1.heap.push { cls := .type "dict_items", data := .fields #[.ref d] } } := I1.kept (t' := s1.toks) fun b ob q => Heap.get?_push_of_some _ q
  have walk : wpAny (model X.prog X.w) X.A (pyIter (.ref s1.heap.objs.size)) (PIE X pins σ (.Tuple elts kk tpos) R) X.xe { s1 with heap := s1.heap.push { cls := .type "dict_items", data := .fields #[.ref d] } } := by
    refine DT.iterI (d := d) ⟨_, Heap.get?_push_size _ rfl, rfl, rfl⟩ (raw.push _) (pi_one (tk := s1.toks) I2 _ (turn_itemsO _ hdt) ⟨.none, .none, ?_⟩ q)
    rw [← hsz]
    exact Heap.get?_push_size _ rfl
  show wpAny _ _ (callWith cpos (.builtin "dict.items") [.ref d] [] []) _ X.xe s1
  exact method_meetsIn F.slot_dict_items F.entry_dict_items rfl (PySem.evalArgs_none ⟨rfl, raw.typeIs, F.args_dict_items_1 _, _, DT.meetsItems (es := es) (ep := ep) notSys, raw, walk⟩)
end L2

set_option Elab.async false
set_option maxRecDepth 100000
set_option maxHeartbeats 4000000
namespace PySem
section
variable {prog : Program} {w : World} {A : Around} {E : Value → Shared → Prop} {s : Shared}
theorem wpAny_len_body_raw {d : Addr} {es : Array DictEntry} {ep : Nat} {Q : Value → Shared → Prop} (hd : (d == sysModules) = false) (hm : s.heap.DictRaw d es ep) (hfit : (es.size : Int) < 2 ^ 63)
    (h : Q (.int es.size (s.toks + 1)) { s with toks := s.toks + 1 + 1 }) : wpAny (model prog w) A (Builtin.«len» ⟨[.ref d], []⟩) (fun fin s' => ∃ r, fin = .done (.ret r) ∧ Q r s') E s := by
  unfold Builtin.«len»
  refine wpAny_bind (m := oneArg "len" _) (wpAny_pure ?_)
  refine wpAny_bind (m := callSpecial? (.ref d) (Str.ofString "__len__")) (wpAny_callSpecial?_slot (name := Str.ofString "__len__") hm.typeIs F.slot_dict_len
    (call_len_raw hd hm ?_))
  show wpAny _ _ _ _ _ { s with toks := s.toks + 1 }
  refine wpAny_bind (wpAny_holding (wpAny_pure ?_))
  refine wpAny_bind (wpAny_letGo ?_)
  show wpAny _ _ (if ((es.size : Nat) : Int) < 0 then _ else _) _ _ _
  rw [if_neg (by omega)]
  show wpAny _ _ (if ((es.size : Nat) : Int) ≥ 2 ^ 63 then _ else _) _ _ _
  rw [if_neg (by omega)]
  exact wpAny_bind (wpAny_mkInt (wpAny_pure ⟨_, rfl, h⟩))
end
end PySem
namespace L2
open PySem PySem.Spec PyProof.Rows
set_option linter.unusedVariables false
section
variable {X : Cx} {pins : List (Addr × Obj)} {σ : L2.St} {H : Hp} {s : Shared}
def rLenO : List V → Hp → VK → Prop := fun xs H Q => ∃ (p : Addr) (kvs : List (List Key × V)) (k v : V), xs = [.ref p] ∧ OddAt H p kvs k v ∧ Q (.int ((kvs.length + 1 : Nat) : Int)) H
theorem call_len_O : CallR X (.builtin "len") rLenO := by
  intro pins s σ H xs us Q I r h
  obtain ⟨p, kvs, k, v, rfl, ⟨o, hp⟩, q⟩ := h
  obtain ⟨u, rfl, rx⟩ := vals1 r
  obtain rfl : u = .ref p := rx
  obtain ⟨z, es, ep, hdt, ⟨o', raw⟩, hsz, _⟩ := hp.entries I
  obtain ⟨es1, ep1, xs, uk, uv, h3, _, _, _, _, _, h9⟩ := hp.ex
  have e1 : es1 = es := by rw [hdt] at h3; cases h3; rfl
  subst e1
  refine Calls.call_function_entry kind_len plain_len entry_len (args_len1 _) (wpAny_len_body_raw z ⟨o', raw⟩ (by rw [sizeLine_eq] at h9; omega) ?_)
  rw [hsz]
  exact ⟨.int ((kvs.length + 1 : Nat) : Int), H, I.tok _, ⟨_, rfl⟩, q⟩
def rIsiO (K : PySem.W.Frag) : List V → Hp → VK → Prop := fun xs H Q => ∃ (p : Addr) (kvs : List (List Key × V)) (k v c : V) (u : Value) (b : Bool), xs = [.ref p, c] ∧ OddAt H p kvs k v ∧ ClsV c u ∧ PySem.W.kitOne K (.type "dict") u = some b ∧ Q (.bl b) H
theorem call_isiO : CallR X (.builtin "isinstance") (rIsiO X.K) := by
  intro pins s σ H xs us Q I r h
  obtain ⟨p, kvs, k, v, c, u, b, rfl, ⟨o, hp⟩, hc, e, q⟩ := h
  obtain ⟨u1, u2, rfl, r1, r2⟩ := vals2 r
  have e2 := hc.eq r2
  subst e2
  cases (show u1 = Value.ref p from r1)
  obtain ⟨z, es, ep, hdt, ⟨o', h1, h2, h3⟩, hsz, _⟩ := hp.entries I
  exact PySem.W.kia_one PySem.W.kitx_dict I.kIn ⟨o', h1, h2.1⟩ e (fun z => nomatch z) fun tk => ⟨.bl b, H, I.tok tk, rfl, q⟩
/-- d[y] = v, y perhaps no tuple -/
def sDPutO (td ty tv : TE) : TS := fun D σ H => tv σ H fun v H1 => td σ H1 fun x H2 => ty σ H2 fun y H3 => (∃ a H4, x = .ref a ∧ DPut H3 a y v H4 ∧ D.nx σ H4) ∨
  ∃ (a : Addr) (kvs : List (List Key × V)), x = .ref a ∧ H3 a = some (.dT kvs) ∧ (∀ kv ∈ kvs, IntK kv.1) ∧ kvs.length < sizeLine ∧ OddV y ∧ ∀ φ, OddAt (upd H3 a (.ext φ)) a kvs y v → D.nx σ (upd H3 a (.ext φ))
theorem ps_dputO {o i value : Expr} {td ty tv : TE} {pos pos' : Pos} (hu : X.A.units + 1 < cLine) (ho : PE X o td) (hi : PE X i ty) (hv : PE X value tv) (hs : swapsWith value (some (.Subscript o i pos')) pos.line X.env = pure false) :
    PS X (.Assign [.Subscript o i pos'] value pos) (sDPutO td ty tv) := by
  refine ⟨fun pins s σ H D I h => ?_⟩
  refine wpAny_Assign_Subscript (thn (hv.run pins s σ H _ I h) fun r s1 ⟨v, H1, I1, rv, q1⟩ => thn (ho.run pins s1 σ H1 _ I1 q1) fun u s2 ⟨x, H2, I2, rx, q2⟩ => thn (hi.run pins s2 σ H2 _ I2 q2) fun iv s3 ⟨y, H3, I3, ry, q3⟩ => ?_) hs
  rcases q3 with ⟨a, H4, ex, g, q3⟩ | ⟨a, kvs, ex, ha, hk, hz, hy, q3⟩
  · subst ex
    obtain rfl : u = Value.ref a := rx
    exact d_setItem hu I3 g ry rv fun s4 I4 => ⟨σ, H4, I4, q3⟩
  · subst ex
    obtain rfl : u = Value.ref a := rx
    exact put_odd I3 hu ha hk hz hy ry rv fun φ s4 od I4 => ⟨σ, _, I4, q3 φ od⟩
/-! what may be shown: an odd dict too -/
inductive DY (K : PySem.W.Frag) (H : Hp) : V → PyData → Prop
  | even {v : V} {d : PyData} : DX K H v d → DY K H v d
  | odd {a : Addr} {kvs : List (List Key × V)} {k v : V} {vs : List V} {ds : List PyData} {es : List (PyData × PyData)} {dk dv : PyData} : OddAt H a kvs k v → vs = kvs.map (·.2) → DXs K H vs ds → es.map (·.1) = kvs.map (fun kv => keyD kv.1) → es.map (·.2) = ds → Dp K H k dk → dk.hasDict = false → DX K H v dv → DY K H (.ref a) (.dict (es ++ [(dk, dv)]))
  | lst {a : Addr} {xs : List V} {ds : List PyData} : SqL K H a xs → xs.length = ds.length → (∀ (i : Nat) (x : V) (d : PyData), xs[i]? = some x → ds[i]? = some d → DY K H x d) → DY K H (.ref a) (.list ds)
  | tup {a : Addr} {xs : List V} {ds : List PyData} : SqT K H a xs → xs.length = ds.length → (∀ (i : Nat) (x : V) (d : PyData), xs[i]? = some x → ds[i]? = some d → DY K H x d) → DY K H (.ref a) (.tuple ds)
theorem shwS_of {P : Program} {w : World} {h : Heap} : ∀ {xs : List V} {us : List Value} {ds : List PyData}, Vals xs us → xs.length = ds.length → (∀ (i : Nat) (x : V) (d : PyData) (u : Value), xs[i]? = some x → ds[i]? = some d → RelV x u → Shw P w h u d) → ShwS P w h us ds
  | _, _, [], .nil, _, _ => shw_nil
  | _, _, d :: ds, .cons r rs, hl, g => shw_cons (g 0 _ d _ rfl rfl r) (shwS_of rs (by simpa using hl) fun i x d u hx hd hr => g (i + 1) x d u (by simpa using hx) (by simpa using hd) hr)
  | _, _, [], .cons r rs, hl, _ => by simp at hl
  | _, _, d :: ds, .nil, hl, _ => by simp at hl
theorem shwS_idx {P : Program} {w : World} {h : Heap} : ∀ {us : List Value} {ds : List PyData}, us.length = ds.length → (∀ (i : Nat) (u : Value) (d : PyData), us[i]? = some u → ds[i]? = some d → Shw P w h u d) → ShwS P w h us ds
  | [], [], _, _ => shw_nil
  | u :: us, d :: ds, hl, g => shw_cons (g 0 _ d rfl rfl) (shwS_idx (by simpa using hl) fun i u d hx hd => g (i + 1) u d (by simpa using hx) (by simpa using hd))
  | [], d :: ds, hl, _ => by simp at hl
  | u :: us, [], hl, _ => by simp at hl
theorem DXs.get {K : PySem.W.Frag} {H : Hp} : ∀ {vs : List V} {ds : List PyData} {i : Nat} {v : V}, DXs K H vs ds → vs[i]? = some v → ∃ d, ds[i]? = some d ∧ DX K H v d
  | _, _, 0, _, .cons a _, h => by
    cases h
    exact ⟨_, rfl, a⟩
  | _, _, i + 1, _, .cons _ b, h => by
    obtain ⟨d, h1, h2⟩ := DXs.get (i := i) b (by simpa using h)
    exact ⟨d, by simpa using h1, h2⟩
  | _, _, _, _, .nil, h => by simp at h
theorem DXs.len {K : PySem.W.Frag} {H : Hp} : ∀ {vs : List V} {ds : List PyData}, DXs K H vs ds → vs.length = ds.length
  | _, _, .nil => rfl
  | _, _, .cons _ b => by rw [List.length_cons, List.length_cons, DXs.len b]
theorem DY.shw (I : Inv X pins σ H s) {v : V} {d : PyData} (h : DY X.K H v d) : ∀ u : Value, RelV v u → Shw X.prog X.w s.heap u d := by
  induction h with
  | even h => exact fun u r => DX.shw I h u r
  | @lst a xs ds hq hl g ih =>
    intro u r
    obtain rfl : u = Value.ref _ := r
    obtain ⟨its, rv, ⟨o, n, ho, hc, _, hd⟩, _⟩ := I.list hq
    exact shw_lst ho hc hd (shwS_of rv hl fun i x d u hx hd hr => ih i x d hx hd u hr)
  | @tup a xs ds hq hl g ih =>
    intro u r
    obtain rfl : u = Value.ref _ := r
    obtain ⟨its, rv, ⟨o, ho, hc, n, hd⟩, _⟩ := I.tuple hq
    exact shw_tup ho hc hd (shwS_of rv hl fun i x d u hx hd hr => ih i x d hx hd u hr)
  | @odd a kvs k v vs ds es dk dv ho ev g ek ed hk nk hv =>
    intro u r
    obtain rfl : u = Value.ref a := r
    obtain ⟨o, hp⟩ := ho
    obtain ⟨z, es', ep, hdt, ⟨o', h1, h2, h3⟩, hsz, ent, hlast, lk, lv⟩ := hp.entries I
    have el : es.length = kvs.length := by
      have := congrArg List.length ek
      rwa [List.length_map, List.length_map] at this
    have at8 : ∀ {α : Type} (f : DictEntry → α) (i : Nat) (u : α), (es'.toList.map f)[i]? = some u → ∃ hi : i < es'.size, u = f es'[i] := fun f i u hu => by
      rw [List.getElem?_map] at hu
      obtain ⟨e, he, rfl⟩ := Option.map_eq_some_iff.mp hu
      rw [Array.getElem?_toList] at he
      obtain ⟨hi, rfl⟩ := Array.getElem?_eq_some_iff.mp he
      exact ⟨hi, rfl⟩
    have keys : ShwS X.prog X.w s.heap (es'.toList.map (·.key)) ((es ++ [(dk, dv)]).map (·.1)) := by
      refine shwS_idx (by rw [List.length_map, List.length_map, List.length_append, Array.length_toList, hsz, el]; rfl) fun i u d hu hd => ?_
      obtain ⟨hi, rfl⟩ := at8 _ i u hu
      rw [List.map_append] at hd
      by_cases c : i < kvs.length
      · rw [List.getElem?_append_left (by rw [List.length_map, el]; exact c), ek, List.getElem?_map, List.getElem?_eq_getElem c] at hd
        cases hd
        obtain ⟨_, q, e1, e2, _⟩ := ent i kvs[i].1 kvs[i].2 (List.getElem?_eq_getElem c)
        rw [e1]
        obtain ⟨as, ra⟩ := Dp.reads I (keyD kvs[i].1) (.ref q) (.ref q) (.tup (SqT.of e2) (keyD1_dp _)) rfl
        exact shw_seq ra (by unfold keyD; rw [PyData.hasDict]; exact keyD1_no _)
      · have ei : i = kvs.length := by omega
        subst ei
        rw [List.getElem?_append_right (by rw [List.length_map, el]; exact Nat.le_refl _), List.length_map, el, Nat.sub_self] at hd
        cases hd
        obtain ⟨as, ra⟩ := Dp.reads I dk k _ hk lk
        exact shw_seq ra nk
    have vals : ShwS X.prog X.w s.heap (es'.toList.map (·.val)) ((es ++ [(dk, dv)]).map (·.2)) := by
      refine shwS_idx (by rw [List.length_map, List.length_map, List.length_append, Array.length_toList, hsz, el]; rfl) fun i u d hu hd => ?_
      obtain ⟨hi, rfl⟩ := at8 _ i u hu
      rw [List.map_append] at hd
      by_cases c : i < kvs.length
      · rw [List.getElem?_append_left (by rw [List.length_map, el]; exact c), ed] at hd
        obtain ⟨_, q, e1, e2, e3⟩ := ent i kvs[i].1 kvs[i].2 (List.getElem?_eq_getElem c)
        obtain ⟨d', h4, h5⟩ := DXs.get g (i := i) (v := kvs[i].2) (by rw [ev, List.getElem?_map, List.getElem?_eq_getElem c]; rfl)
        rw [h4] at hd
        cases hd
        exact DX.shw I h5 _ e3
      · have ei : i = kvs.length := by omega
        subst ei
        rw [List.getElem?_append_right (by rw [List.length_map, el]; exact Nat.le_refl _), List.length_map, el, Nat.sub_self] at hd
        cases hd
        exact DX.shw I hv _ lv
    exact shw_dic h1 h2.1 h3 z keys vals
/-- repr of a tuple in which odd dicts may stand -/
def rReprY (K : PySem.W.Frag) : List V → Hp → VK → Prop := fun xs H Q => ∃ (a : Addr) (vs : List V) (ds : List PyData), xs = [.ref a] ∧ SqT K H a vs ∧ vs.length = ds.length ∧ (∀ (i : Nat) (x : V) (d : PyData), vs[i]? = some x → ds[i]? = some d → DY K H x d) ∧ (PyData.tuple ds).showable = true ∧ (PyData.tuple ds).depth ≤ 40 ∧ (PyData.tuple ds).shown.length ≤ sizeLine ∧ Q (.str (PyData.tuple ds).shown) H
theorem call_reprY (hg : X.A.guards = some []) (hu : X.A.units + 64 < cLine) : CallR X (.builtin "repr") (rReprY X.K) := by
  intro pins s σ H xs us Q I r h
  obtain ⟨a, vs, ds, rfl, hq, hl, g, hs, hd, hz, q⟩ := h
  obtain rfl := Vals.ref1 r
  obtain ⟨its, rv, ⟨o, ho, hc, n, hdd⟩, _⟩ := I.tuple hq
  obtain ⟨⟨as, ra⟩, gg⟩ := shwS_of rv hl fun i x d u hx hd hr => DY.shw I (g i x d hx hd) u hr
  have rd : Reads s.heap (.ref a) (.tuple ds) _ := .tuple ho hc hdd ra
  rw [PyData.showable] at hs
  rw [PyData.shown] at hz q
  rw [PyData.depth] at hd
  obtain ⟨bs, b1, b2⟩ := gg hs fun t m => Nat.le_trans (tupleText_mem_le m) hz
  have out : a ∉ bs := not_mem_of_deeper rd (by rw [PyData.depth]; omega) b1
  refine call_repr_slot (T := "tuple") (idr := "tuple.__repr__") (by omega) ⟨o, ho, hc⟩ F.slot_tuple_repr ?_
  exact call_tuple_reprK ho hc hdd out b2 (g := []) hg (fun b _ => Clear.nil b) (by show X.A.units + 1 + (PyData.depthAll ds + 1) < cLine; omega) (fun _ _ e => e) (fun h' u tk hk => ⟨_, _, rfl, .str _, H, I.kept (t' := tk) hk, ⟨_, rfl⟩, q⟩) hz
end
end L2

set_option Elab.async false
set_option maxRecDepth 100000
set_option maxHeartbeats 4000000
namespace L2
open PySem PySem.Spec PyProof.Rows PySem.SeqAt PySem.Calls PyProof.V PySem.W
set_option linter.unusedVariables false
/-! == of dicts with tuple keys -/
section
variable {prog : Program} {w : World} {K : Type} [DecidableEq K] {knd : HeapKind prog w K} {A : Around} {E : Value → Shared → Prop} {s : Shared}
inductive HitsH {K : Type} (prog : Program) (w : World) (A : Around) (s : Shared) (kb : List (K × Addr × Value)) : List (K × Addr × Value) → Bool → Prop
  | nil : HitsH prog w A s kb [] true
  | miss {k : K} {v : Addr × Value} {r : List (K × Addr × Value)} : (∀ (j : Nat) (p : Addr × Value), kb[j]? ≠ some (k, p)) → HitsH prog w A s kb ((k, v) :: r) false
  | hit {k : K} {v p : Addr × Value} {j : Nat} {r : List (K × Addr × Value)} {e b : Bool} : kb[j]? = some (k, p) → SeqAt.EqP prog w A s v.2 p.2 e → HitsH prog w A s kb r b → HitsH prog w A s kb ((k, v) :: r) (e && b)
theorem HitsH.inv {kb : List (K × Addr × Value)} {k : K} {v : Addr × Value} {r : List (K × Addr × Value)} {b : Bool} (h : HitsH prog w A s kb ((k, v) :: r) b) :
    ((∀ (j : Nat) (p : Addr × Value), kb[j]? ≠ some (k, p)) ∧ b = false) ∨ ∃ (j : Nat) (p : Addr × Value) (e b' : Bool), kb[j]? = some (k, p) ∧ SeqAt.EqP prog w A s v.2 p.2 e ∧ HitsH prog w A s kb r b' ∧ b = (e && b') := by
  cases h with
  | miss hn => exact .inl ⟨hn, rfl⟩
  | hit hy he hr => exact .inr ⟨_, _, _, _, hy, he, hr, rfl⟩
theorem samePairsH {nm : String} {a b : Addr} {ka kb : List (K × Addr × Value)} {r : Bool} {Q : Bool → Shared → Prop} (hu : knd.room A) (ha : (a == sysModules) = false) (hb : (b == sysModules) = false)
    (da : s.heap.DictOfH knd a ka) (db : s.heap.DictOfH knd b kb) (hits : ka.length = kb.length → HitsH prog w A s kb ka r) (h : Q (ka.length == kb.length && r) s) :
    wpAny (model prog w) A (Builtin.Dict.samePairs nm a b) Q E s := by
  obtain ⟨oa, es, ep, hoa, _, hda, hea, hia, hna⟩ := da
  obtain ⟨ob, es', ep', hob, _, hdb, heb, hib, hnb⟩ := db
  have hla : ka.length = es.size := (size_of_entries hea).symm
  have hlb : kb.length = es'.size := (size_of_entries heb).symm
  rw [hla, hlb] at h
  unfold Builtin.Dict.samePairs Builtin.Dict.showsAll
  rw [if_neg (show ¬ (a == sysModules) = true by rw [ha]; exact Bool.false_ne_true), if_neg (show ¬ (b == sysModules) = true by rw [hb]; exact Bool.false_ne_true)]
  refine wpAny_bind (wpAny_pure (wpAny_bind (wpAny_pure ?_)))
  refine wpAny_bind (wpAny_dictEntries hoa hda ?_)
  dsimp only
  refine wpAny_bind (wpAny_dictEntries hob hdb ?_)
  by_cases hsz : es.size = es'.size
  case neg =>
    rw [if_pos (by simpa using hsz)]
    have hbf : (es.size == es'.size) = false := by simpa using hsz
    rw [hbf, Bool.false_and] at h
    exact wpAny_bind (wpAny_rule (wpAny_pure h))
  case pos =>
    have h' : Q r s := by simpa [hsz] using h
    have hits' := hits (by rw [hla, hlb]; exact hsz)
    rw [if_neg (by rw [hsz]; simp)]
    refine wpAny_bind (wpAny_dictEpoch hoa hda ?_)
    refine wpAny_bind ?_
    rw [Std.Legacy.Range.forIn_eq_forIn_range']
    simp only [Std.Legacy.Range.size, Nat.sub_zero, Nat.add_sub_cancel, Nat.div_one]
    refine wpAny_forIn_list _
      (fun rest q s' => s' = s ∧ q = (none, ()) ∧ ∃ i, rest = List.range' i (es.size - i) ∧ i ≤ es.size ∧ HitsH prog w A s kb (ka.drop i) r)
      _ ?_ ?_ _ _ ⟨rfl, rfl, 0, by simp, Nat.zero_le _, hits'⟩
    · rintro x rest q s' ⟨rfl, rfl, i, hr, hi, hpre⟩
      have hlt : i < es.size := by
        rcases Nat.lt_or_ge i es.size with h | h
        · exact h
        · rw [Nat.sub_eq_zero_of_le h] at hr; simp at hr
      obtain ⟨rfl, hrest⟩ : x = i ∧ rest = List.range' (i + 1) (es.size - (i + 1)) := by
        have e : es.size - i = (es.size - (i + 1)) + 1 := by omega
        rw [e, List.range'_succ] at hr
        injection hr with h1 h2
        exact ⟨h1, h2⟩
      refine wpAny_bind (wpAny_dictEntries hoa hda ?_)
      rw [Array.getElem?_eq_getElem hlt]
      have hlt' : x < ka.length := by rw [hla]; exact hlt
      obtain ⟨k, v, hkv⟩ : ∃ k v, ka[x] = (k, v) := ⟨_, _, rfl⟩
      have hdrop : ka.drop x = (k, v) :: ka.drop (x + 1) := by rw [← hkv]; exact List.drop_eq_getElem_cons hlt'
      have hen : es[x] = entryOfKey knd (k, v) := by
        have q := entry_at hea x
        rw [Array.getElem?_eq_getElem hlt, List.getElem?_eq_getElem hlt', hkv] at q
        exact Option.some.inj q
      have hkm : knd.is s'.heap k v.1 := by
        have := hia ka[x] (List.getElem_mem hlt')
        rw [hkv] at this
        exact this
      rw [hdrop] at hpre
      rw [hen]
      show wpAny _ _ (holding [Value.ref v.1, v.2] _ >>= _) _ _ _
      refine wpAny_bind (wpAny_holding (wpAny_bind ?_))
      show wpAny _ _ (dictFind b (.ref v.1) (knd.hash k)) _ _ _
      refine wpAny_dictFind_heap hu hkm hob hdb heb hib hnb (fun hno => ?_) fun j p hj => ?_
      · rcases hpre.inv with ⟨_, er⟩ | ⟨j, y, _, _, hy, _⟩
        · rw [er] at h'
          refine wpAny_pure ?_
          show wpAny _ _ (if (!false) = true then _ else _) _ _ _
          rw [if_pos (by decide)]
          exact wpAny_pure (wpAny_pure h')
        · exact absurd hy (hno j y)
      · have hjlt : j < es'.size := by
          rw [← hlb]
          exact (List.getElem?_eq_some_iff.mp hj).1
        refine wpAny_bind (wpAny_dictEntries hob hdb ?_)
        rw [Array.getElem?_eq_getElem hjlt]
        rcases hpre.inv with ⟨hn, _⟩ | ⟨j2, y, e, b', hy, he, hrr, er⟩
        · exact absurd hj (hn j p)
        · have ejj : j = j2 := by
            obtain ⟨l1, e1⟩ := List.getElem?_eq_some_iff.mp hj
            obtain ⟨l2, e2⟩ := List.getElem?_eq_some_iff.mp hy
            have g1 : (kb.map (·.1))[j]'(by simpa using l1) = k := by rw [List.getElem_map, e1]
            have g2 : (kb.map (·.1))[j2]'(by simpa using l2) = k := by rw [List.getElem_map, e2]
            have pw := List.pairwise_iff_getElem.mp hnb
            rcases Nat.lt_trichotomy j j2 with c | c | c
            · exact absurd (g1.trans g2.symm) (pw j j2 (by simpa using l1) (by simpa using l2) c)
            · exact c
            · exact absurd (g2.trans g1.symm) (pw j2 j (by simpa using l2) (by simpa using l1) c)
          subst ejj
          rw [hj] at hy
          cases hy
          have ev : es'[j].val = p.2 := by
            have q := entry_at heb j
            rw [Array.getElem?_eq_getElem hjlt, hj] at q
            rw [Option.some.inj q]
            rfl
          show wpAny _ _ (holding [es'[j].val] (eqBool v.2 es'[j].val)) _ _ _
          rw [ev]
          refine wpAny_holding (he _ _ ?_)
          cases e with
          | false =>
            rw [er, Bool.false_and] at h'
            show wpAny _ _ (if (!false) = true then _ else _) _ _ _
            rw [if_pos (by decide)]
            exact wpAny_pure (wpAny_pure h')
          | true =>
            rw [Bool.true_and] at er
            rw [← er] at hrr
            show wpAny _ _ (if (!true) = true then _ else _) _ _ _
            rw [if_neg (by decide)]
            refine wpAny_bind (wpAny_dictEpoch hoa hda ?_)
            rw [if_neg (by simp)]
            exact wpAny_pure ⟨rfl, rfl, x + 1, hrest, hlt, hrr⟩
    · rintro q s' ⟨rfl, rfl, i, hr, hi, hpre⟩
      have hin : i = es.size := by
        rcases Nat.lt_or_ge i es.size with h | h
        · have e : es.size - i = (es.size - (i + 1)) + 1 := by omega
          rw [e, List.range'_succ] at hr; exact nomatch hr
        · exact Nat.le_antisymm hi h
      refine wpAny_pure ?_
      rw [hin, ← hla, List.drop_length] at hpre
      cases hpre
      exact h'
theorem DictOfH.ty {d : Addr} {xs : List (K × Addr × Value)} (h : s.heap.DictOfH knd d xs) : s.TypeIs (.ref d) "dict" := let ⟨o, _, _, ho, hc, _⟩ := h; ⟨o, ho, hc.1⟩
theorem rcH_dicts {a b : Addr} {ka kb : List (K × Addr × Value)} {r : Bool} (hr : knd.room A.in1) (ha : (a == sysModules) = false) (hb : (b == sysModules) = false)
    (da : s.heap.DictOfH knd a ka) (db : s.heap.DictOfH knd b kb) (hu : A.units < cLine) (hits : ka.length = kb.length → HitsH prog w A.in1 s kb ka r) (E Q : Value → Shared → Prop) (h : Q (.bool (ka.length == kb.length && r)) s) : wpAny (model prog w) A (richCompare .Eq (.ref a) (.ref b)) Q E s := by
  refine wpAny_richCompare_same_room (op := .Eq) (DictOfH.ty da) (DictOfH.ty db) PySem.F.slot_dict_eq (wpAny_call_entry PySem.F.slot_dict_eq (DictOfH.ty da) PySem.F.entry_dict_eq ?_ (PySem.F.args_dict_eq_2 _ _)) hu
  show wpAny _ _ (Builtin.Dict.dictSlotArgs "__eq__" ⟨[.ref a, .ref b], []⟩ >>= _) _ _ s
  refine wpAny_bind ?_
  unfold Builtin.Dict.dictSlotArgs
  refine wpAny_bind (wpAny_notOrdered_dict (DictOfH.ty da) ?_)
  show wpAny _ _ (pure (Value.ref a, Value.ref b)) _ _ s
  refine wpAny_pure ?_
  refine wpAny_bind (wpAny_isInstance (T := "dict") (DictOfH.ty db) PySem.F.sub_dict_dict ?_)
  simp only [Bool.not_true, Bool.false_eq_true, if_false]
  refine wpAny_bind (wpAny_pure (wpAny_bind (wpAny_pure ?_)))
  refine wpAny_bind (samePairsH hr ha hb da db hits ?_)
  refine wpAny_pure ⟨_, rfl, ?_, ?_⟩
  · exact fun x => nomatch x
  · simpa using h
theorem rcHN_dicts {a b : Addr} {ka kb : List (K × Addr × Value)} {r : Bool} (hr : knd.room A.in1) (ha : (a == sysModules) = false) (hb : (b == sysModules) = false)
    (da : s.heap.DictOfH knd a ka) (db : s.heap.DictOfH knd b kb) (hu : A.units < cLine) (hits : ka.length = kb.length → HitsH prog w A.in1 s kb ka r) (E Q : Value → Shared → Prop) (h : Q (.bool (!(ka.length == kb.length && r))) s) : wpAny (model prog w) A (richCompare .NotEq (.ref a) (.ref b)) Q E s := by
  refine wpAny_richCompare_same_room (op := .NotEq) (DictOfH.ty da) (DictOfH.ty db) PySem.F.slot_dict_ne (wpAny_call_entry PySem.F.slot_dict_ne (DictOfH.ty da) PySem.F.entry_dict_ne ?_ (PySem.F.args_dict_ne_2 _ _)) hu
  show wpAny _ _ (Builtin.Dict.dictSlotArgs "__ne__" ⟨[.ref a, .ref b], []⟩ >>= _) _ _ s
  refine wpAny_bind ?_
  unfold Builtin.Dict.dictSlotArgs
  refine wpAny_bind (wpAny_notOrdered_dict (DictOfH.ty da) ?_)
  show wpAny _ _ (pure (Value.ref a, Value.ref b)) _ _ s
  refine wpAny_pure ?_
  refine wpAny_bind (wpAny_isInstance (T := "dict") (DictOfH.ty db) PySem.F.sub_dict_dict ?_)
  simp only [Bool.not_true, Bool.false_eq_true, if_false]
  refine wpAny_bind (wpAny_pure (wpAny_bind (wpAny_pure ?_)))
  refine wpAny_bind (samePairsH hr ha hb da db hits ?_)
  refine wpAny_pure ⟨_, rfl, ?_, ?_⟩
  · exact fun x => nomatch x
  · simpa using h
end

section
variable {prog : Program} {w : World}
open AutoSeq1 (wpAny_loadPart')
theorem tuple_eqIn (l b : Addr) (items items2 : Array Value) (n n2 : Nat) (dd dd2 : Option Addr) (sl sl2 : Array (Option Value)) (e : Nat → Bool) :
    MeetsIn prog w (Builtin.«tuple.__eq__» ⟨[.ref l, .ref b], []⟩)
      (fun A R s => s.heap.get? l = some { cls := .type "tuple", dict := dd, data := .seq items n, slots := sl } ∧ s.heap.get? b = some { cls := .type "tuple", dict := dd2, data := .seq items2 n2, slots := sl2 } ∧
        (∀ j (h1 : j < items.size) (h2 : j < items2.size), SeqAt.EqP prog w A.in1 s items[j] items2[j] (e j)) ∧
        R (.ok (.ret (.bool ((List.range (min items.size items2.size)).all e && items.size == items2.size)))) s) :=
  .of_wp fun A R s h => by
    obtain ⟨hp, g, d, tk, os⟩ := s; obtain ⟨hl, hb, he, h⟩ := h
    have f2 := AutoSeq1.sub_tuple_tuple
    have hZ : (items.toList.zip items2.toList).length = min items.size items2.size := by simp
    wp_walk using wpAny_loadPart' hl, wpAny_loadPart' hb, wpAny_forIn_list _ (fun rest b s' => b.1 = none ∧ s' = ⟨hp, g, d, tk, os⟩ ∧ ∃ i, rest = (items.toList.zip items2.toList).drop i ∧
      R (.ok (.ret (.bool (((List.range (min items.size items2.size)).drop i).all e && items.size == items2.size)))) ⟨hp, g, d, tk, os⟩) _
    case turn =>
      rintro ⟨y, x⟩ rest b s' ⟨hb', rfl, i, hz, hR⟩
      have hlt : i < (items.toList.zip items2.toList).length := by
        rcases Nat.lt_or_ge i (items.toList.zip items2.toList).length with h' | h'
        · exact h'
        · rw [List.drop_of_length_le h'] at hz; cases hz
      have hm : i < min items.size items2.size := hZ ▸ hlt
      have h1 : i < items.size := Nat.lt_of_lt_of_le hm (Nat.min_le_left _ _)
      have h2 : i < items2.size := Nat.lt_of_lt_of_le hm (Nat.min_le_right _ _)
      rw [List.drop_eq_getElem_cons hlt] at hz
      injection hz with hyx hrest
      have hy : y = items[i] := by have := congrArg Prod.fst hyx; simpa using this
      have hx : x = items2[i] := by have := congrArg Prod.snd hyx; simpa using this
      subst hy hx
      have hd : (List.range (min items.size items2.size)).drop i = i :: (List.range (min items.size items2.size)).drop (i + 1) := by simp [List.drop_eq_getElem_cons, hm]
      rw [hd, List.all_cons] at hR
      refine wpAny_bind (he i h1 h2 _ _ ?_)
      cases hy : e i with
      | true =>
        rw [hy] at hR
        wp_walk
        exact ⟨rfl, rfl, i + 1, hrest, by simpa using hR⟩
      | false =>
        rw [hy] at hR
        wp_walk
        exact ⟨_, rfl, by simpa using hR⟩
    case fin =>
      rintro ⟨b1, b2⟩ s' ⟨hb', rfl, i, hz, hR⟩
      simp only at hb'
      subst hb'
      have hge : min items.size items2.size ≤ i := by
        rcases Nat.lt_or_ge i (items.toList.zip items2.toList).length with h' | h'
        · rw [List.drop_eq_getElem_cons h'] at hz; cases hz
        · exact hZ ▸ h'
      rw [List.drop_of_length_le (by simpa using hge)] at hR
      wp_walk
      exact ⟨_, rfl, by simpa [Builtin.Tuple.tupleCompareSizes] using hR⟩
    case h =>
      exact ⟨rfl, rfl, 0, rfl, by simpa using h⟩
theorem rcP_tups {A : Around} {s : Shared} {l b : Addr} {items items2 : Array Value} {e : Nat → Bool} (hl : s.heap.IsTuple l items) (hb : s.heap.IsTuple b items2) (hu : A.units < cLine)
    (he : ∀ j (h1 : j < items.size) (h2 : j < items2.size), SeqAt.EqP prog w A.in1 s items[j] items2[j] (e j)) (E Q : Value → Shared → Prop) (h : Q (.bool ((List.range (min items.size items2.size)).all e && items.size == items2.size)) s) : wpAny (model prog w) A (richCompare .Eq (.ref l) (.ref b)) Q E s := by
  obtain ⟨⟨cls, dd, data, sl⟩, ho, hc, n, hd⟩ := id hl
  obtain ⟨⟨cls2, dd2, data2, sl2⟩, ho2, hc2, n2, hd2⟩ := id hb
  simp only at hc hd hc2 hd2
  subst hc hd hc2 hd2
  have ta : s.TypeIs (.ref l) "tuple" := ⟨_, ho, rfl⟩
  have tb : s.TypeIs (.ref b) "tuple" := ⟨_, ho2, rfl⟩
  exact wpAny_richCompare_same_room (op := .Eq) ta tb F.slot_tuple_eq (call_meetsIn F.slot_tuple_eq ta F.entry_tuple_eq (F.args_tuple_eq_2 _ _) (tuple_eqIn l b items items2 n n2 dd dd2 sl sl2 e)
    ⟨ho, ho2, he, show Value.bool ((List.range (min items.size items2.size)).all e && items.size == items2.size) ≠ Value.notImplemented ∧ Q (.bool ((List.range (min items.size items2.size)).all e && items.size == items2.size)) s from ⟨(fun x => nomatch x), h⟩⟩) hu
theorem tuple_neIn (l b : Addr) (items items2 : Array Value) (n n2 : Nat) (dd dd2 : Option Addr) (sl sl2 : Array (Option Value)) (e : Nat → Bool) :
    MeetsIn prog w (Builtin.«tuple.__ne__» ⟨[.ref l, .ref b], []⟩)
      (fun A R s => s.heap.get? l = some { cls := .type "tuple", dict := dd, data := .seq items n, slots := sl } ∧ s.heap.get? b = some { cls := .type "tuple", dict := dd2, data := .seq items2 n2, slots := sl2 } ∧
        (∀ j (h1 : j < items.size) (h2 : j < items2.size), SeqAt.EqP prog w A.in1 s items[j] items2[j] (e j)) ∧
        R (.ok (.ret (.bool (!((List.range (min items.size items2.size)).all e && items.size == items2.size))))) s) :=
  .of_wp fun A R s h => by
    obtain ⟨hp, g, d, tk, os⟩ := s; obtain ⟨hl, hb, he, h⟩ := h
    have f2 := AutoSeq1.sub_tuple_tuple
    have hZ : (items.toList.zip items2.toList).length = min items.size items2.size := by simp
    wp_walk using wpAny_loadPart' hl, wpAny_loadPart' hb, wpAny_forIn_list _ (fun rest b s' => b.1 = none ∧ s' = ⟨hp, g, d, tk, os⟩ ∧ ∃ i, rest = (items.toList.zip items2.toList).drop i ∧
      R (.ok (.ret (.bool (!(((List.range (min items.size items2.size)).drop i).all e && items.size == items2.size))))) ⟨hp, g, d, tk, os⟩) _
    case turn =>
      rintro ⟨y, x⟩ rest b s' ⟨hb', rfl, i, hz, hR⟩
      have hlt : i < (items.toList.zip items2.toList).length := by
        rcases Nat.lt_or_ge i (items.toList.zip items2.toList).length with h' | h'
        · exact h'
        · rw [List.drop_of_length_le h'] at hz; cases hz
      have hm : i < min items.size items2.size := hZ ▸ hlt
      have h1 : i < items.size := Nat.lt_of_lt_of_le hm (Nat.min_le_left _ _)
      have h2 : i < items2.size := Nat.lt_of_lt_of_le hm (Nat.min_le_right _ _)
      rw [List.drop_eq_getElem_cons hlt] at hz
      injection hz with hyx hrest
      have hy : y = items[i] := by have := congrArg Prod.fst hyx; simpa using this
      have hx : x = items2[i] := by have := congrArg Prod.snd hyx; simpa using this
      subst hy hx
      have hd : (List.range (min items.size items2.size)).drop i = i :: (List.range (min items.size items2.size)).drop (i + 1) := by simp [List.drop_eq_getElem_cons, hm]
      rw [hd, List.all_cons] at hR
      refine wpAny_bind (he i h1 h2 _ _ ?_)
      cases hy : e i with
      | true =>
        rw [hy] at hR
        wp_walk
        exact ⟨rfl, rfl, i + 1, hrest, by simpa using hR⟩
      | false =>
        rw [hy] at hR
        wp_walk
        exact ⟨_, rfl, by simpa using hR⟩
    case fin =>
      rintro ⟨b1, b2⟩ s' ⟨hb', rfl, i, hz, hR⟩
      simp only at hb'
      subst hb'
      have hge : min items.size items2.size ≤ i := by
        rcases Nat.lt_or_ge i (items.toList.zip items2.toList).length with h' | h'
        · rw [List.drop_eq_getElem_cons h'] at hz; cases hz
        · exact hZ ▸ h'
      rw [List.drop_of_length_le (by simpa using hge)] at hR
      wp_walk
      exact ⟨_, rfl, by simpa [Builtin.Tuple.tupleCompareSizes, bne] using hR⟩
    case h =>
      exact ⟨rfl, rfl, 0, rfl, by simpa using h⟩
theorem rcN_tups {A : Around} {s : Shared} {l b : Addr} {items items2 : Array Value} {e : Nat → Bool} (hl : s.heap.IsTuple l items) (hb : s.heap.IsTuple b items2) (hu : A.units < cLine)
    (he : ∀ j (h1 : j < items.size) (h2 : j < items2.size), SeqAt.EqP prog w A.in1 s items[j] items2[j] (e j)) (E Q : Value → Shared → Prop) (h : Q (.bool (!((List.range (min items.size items2.size)).all e && items.size == items2.size))) s) : wpAny (model prog w) A (richCompare .NotEq (.ref l) (.ref b)) Q E s := by
  obtain ⟨⟨cls, dd, data, sl⟩, ho, hc, n, hd⟩ := id hl
  obtain ⟨⟨cls2, dd2, data2, sl2⟩, ho2, hc2, n2, hd2⟩ := id hb
  simp only at hc hd hc2 hd2
  subst hc hd hc2 hd2
  have ta : s.TypeIs (.ref l) "tuple" := ⟨_, ho, rfl⟩
  have tb : s.TypeIs (.ref b) "tuple" := ⟨_, ho2, rfl⟩
  exact wpAny_richCompare_same_room (op := .NotEq) ta tb F.slot_tuple_ne (call_meetsIn F.slot_tuple_ne ta F.entry_tuple_ne (F.args_tuple_ne_2 _ _) (tuple_neIn l b items items2 n n2 dd dd2 sl sl2 e)
    ⟨ho, ho2, he, show Value.bool (!((List.range (min items.size items2.size)).all e && items.size == items2.size)) ≠ Value.notImplemented ∧ Q (.bool (!((List.range (min items.size items2.size)).all e && items.size == items2.size))) s from ⟨(fun x => nomatch x), h⟩⟩) hu
end
end L2

set_option Elab.async false
set_option maxRecDepth 100000
set_option maxHeartbeats 4000000
namespace L2
open PySem PySem.Spec PyProof.Rows PySem.SeqAt PySem.Calls PyProof.V PySem.W
set_option linter.unusedVariables false
/-! == of nested data in which dicts with tuple keys stand -/
def RcX (K : PySem.W.Frag) (H : Hp) (F : V → V → Bool → Prop) (x y : V) (r : Bool) : Prop :=
  (∃ a b xs ys e, x = .ref a ∧ y = .ref b ∧ SqL K H a xs ∧ SqL K H b ys ∧ xs.length = ys.length ∧ (∀ (j : Nat) u v, xs[j]? = some u → ys[j]? = some v → F u v (e j)) ∧ r = (List.range xs.length).all e) ∨
  (∃ a b xs ys e, x = .ref a ∧ y = .ref b ∧ SqT K H a xs ∧ SqT K H b ys ∧ (∀ (j : Nat) u v, xs[j]? = some u → ys[j]? = some v → F u v (e j)) ∧ r = ((List.range (min xs.length ys.length)).all e && xs.length == ys.length)) ∨
  ∃ a b ks ls f, x = .ref a ∧ y = .ref b ∧ H a = some (.dT ks) ∧ H b = some (.dT ls) ∧ (ks.length = ls.length → ∀ p ∈ ks, (valV ls p.1 = none ∧ f p = false) ∨ ∃ u, valV ls p.1 = some u ∧ F p.2 u (f p)) ∧ r = (ks.length == ls.length && ks.all f)
def EqX (K : PySem.W.Frag) (H : Hp) : Nat → V → V → Bool → Prop
  | 0 => fun _ _ _ => False
  | n + 1 => fun x y r => (∃ d e, Dp K H x d ∧ Dp K H y e ∧ SeqAt.shaped d = true ∧ SeqAt.shaped e = true ∧ r = PyData.eqv d e) ∨ (∃ a, x = .ref a ∧ y = .ref a ∧ r = true) ∨ (RcX K H (EqX K H n) x y r ∧ (x = y → r = true))
theorem atKey_idx {xs : List (List Key × Addr × Value)} {k : List Key} {p : Addr × Value} (h : atKey xs k = some p) : ∃ j : Nat, xs[j]? = some (k, p) := by
  unfold atKey at h
  obtain ⟨q, hq, rfl⟩ := Option.map_eq_some_iff.mp h
  obtain ⟨j, hj⟩ := List.getElem?_of_mem (List.mem_of_find?_eq_some hq)
  have : q.1 = k := by simpa using List.find?_some hq
  exact ⟨j, by rw [hj, ← this]⟩
theorem atKey_no {xs : List (List Key × Addr × Value)} {k : List Key} (h : atKey xs k = none) : ∀ (j : Nat) (p : Addr × Value), xs[j]? ≠ some (k, p) := fun j p e => by
  unfold atKey at h
  have h := Option.map_eq_none_iff.mp h
  have := List.find?_eq_none.mp h (k, p) (List.mem_of_getElem? e)
  simp at this
theorem hitsH_run {P : Program} {w : World} {A : Around} {s : Shared} {H : Hp} {F : V → V → Bool → Prop} (ih : ∀ x y r v u, F x y r → RelV x v → RelV y u → SeqAt.EqP P w A s v u r) {ls : List (List Key × V)} {vb : List (List Key × Addr × Value)} (rb : KT H ls vb) {f : List Key × V → Bool} {ks : List (List Key × V)} {va : List (List Key × Addr × Value)}
    (ra : KT H ks va) : (∀ p ∈ ks, (valV ls p.1 = none ∧ f p = false) ∨ ∃ u, valV ls p.1 = some u ∧ F p.2 u (f p)) → HitsH P w A s vb va (ks.all f) := by
  induction ra with
  | nil => intro _; exact .nil
  | @cons p q ps qs h t k =>
    intro hp
    obtain ⟨h1, h2, h3⟩ := h
    obtain ⟨key, v⟩ := q
    have h1 : p.1 = key := h1
    have rv := rb.val p.1
    rw [List.all_cons]
    rcases hp p List.mem_cons_self with ⟨e, ef⟩ | ⟨u, e, fu⟩
    · rw [ef, Bool.false_and]
      rw [e] at rv
      have : atKey vb p.1 = none := by
        cases c : atKey vb p.1 with
        | none => rfl
        | some z => rw [c] at rv; exact False.elim rv
      rw [h1] at this
      exact .miss (atKey_no this)
    · rw [e] at rv
      obtain ⟨y, hy, ry⟩ := rv.some_of
      obtain ⟨z, hz, rfl⟩ := Option.map_eq_some_iff.mp hy
      rw [h1] at hz
      obtain ⟨j, hj⟩ := atKey_idx hz
      exact .hit hj (ih _ _ _ _ _ fu h3 ry) (k fun p' hm => hp p' (List.mem_cons_of_mem _ hm))
section
variable {X : Cx} {pins : List (Addr × Obj)} {σ : St} {H : Hp} {s : Shared}
theorem vals_at {xs : List V} {us : List Value} (r : Vals xs us) {j : Nat} (h : j < us.length) : ∃ x, xs[j]? = some x ∧ RelV x us[j] := by
  have hx : j < xs.length := by rw [r.length]; exact h
  obtain ⟨u, hu, ru⟩ := r.get (List.getElem?_eq_getElem hx)
  rw [List.getElem?_eq_getElem h] at hu
  cases hu
  exact ⟨_, List.getElem?_eq_getElem hx, ru⟩
section
open AutoSeq1 (wpAny_loadPart')
open MeetsSeq MeetsSeq2 MeetsSeq3 SeqRoads2
theorem ne_loopIn {prog : Program} {w : World} (l b : Addr) (items items2 : Array Value) (n n2 : Nat) (dd dd2 : Option Addr) (sl sl2 : Array (Option Value)) (hsz : items.size = items2.size) (e : Nat → Bool) (k : Nat) :
    ∀ i : Nat, items.size - i = k → MeetsIn prog w (Builtin.«list.__eq__.loop» ⟨[.ref l, .ref b, rawInt i, rawInt 3], []⟩)
      (fun A R s => s.heap.get? l = some { cls := .type "list", dict := dd, data := .seq items n, slots := sl } ∧ s.heap.get? b = some { cls := .type "list", dict := dd2, data := .seq items2 n2, slots := sl2 } ∧
        (∀ j (h1 : j < items.size) (h2 : j < items2.size), SeqAt.EqP prog w A.in1 s items[j] items2[j] (e j)) ∧
        R (.ok (.ret (.bool (!((List.range items.size).drop i).all e)))) s) := by
  induction k with
  | zero =>
    intro i hk A R s h
    obtain ⟨hp, g, d, tk, os⟩ := s; obtain ⟨hl, hb, he, h⟩ := h
    wp_walk using wpAny_loadPart' hl, wpAny_loadPart' hb
    have hi1 : items[((i : Nat) : Int).toNat]? = none := by simp; omega
    have hi2 : items2[((i : Nat) : Int).toNat]? = none := by simp; omega
    have hd : (List.range items.size).drop i = [] := by simp; omega
    rw [hd] at h
    rw [hi1, hi2]
    wp_walk using wpAny_loadPart' hl, wpAny_loadPart' hb
    show R (.ok (.ret (.bool (items.size != items2.size)))) _
    rw [hsz]
    simpa using h
  | succ k ih =>
    intro i hk A R s h
    obtain ⟨hp, g, d, tk, os⟩ := s; obtain ⟨hl, hb, he, h⟩ := h
    wp_walk using wpAny_loadPart' hl, wpAny_loadPart' hb
    have hlt : i < items.size := by omega
    have hlt2 : i < items2.size := by omega
    have hi1 : items[((i : Nat) : Int).toNat]? = some items[i] := by simp [hlt]
    have hi2 : items2[((i : Nat) : Int).toNat]? = some items2[i] := by simp [hlt2]
    have hd : (List.range items.size).drop i = i :: (List.range items.size).drop (i + 1) := by simp [List.drop_eq_getElem_cons, hlt]
    have hc : ((i : Int) + 1) = ((i + 1 : Nat) : Int) := by push_cast; rfl
    rw [hd, List.all_cons] at h
    rw [hi1, hi2]
    refine wpAny_bind (he i hlt hlt2 _ _ ?_)
    cases hb' : e i with
    | true =>
      rw [hb'] at h
      wp_walk
      rw [hc]
      exact ⟨plainId_quiet plain_eq_loop _, codeAny_builtin entry_eq_loop (by
        rw [Around.under_plainId plain_eq_loop _]
        exact ih (i + 1) (by omega) A R _ ⟨hl, hb, he, by simpa using h⟩)⟩
    | false =>
      rw [hb'] at h
      wp_walk using wpAny_loadPart' hl, wpAny_loadPart' hb
      rw [hi1, hi2]
      wp_walk
      simpa using h

theorem list_neIn {prog : Program} {w : World} (l b : Addr) (items items2 : Array Value) (n n2 : Nat) (dd dd2 : Option Addr) (sl sl2 : Array (Option Value)) (hsz : items.size = items2.size) (e : Nat → Bool) :
    MeetsIn prog w (Builtin.«list.__ne__» ⟨[.ref l, .ref b], []⟩)
      (fun A R s => s.heap.get? l = some { cls := .type "list", dict := dd, data := .seq items n, slots := sl } ∧ s.heap.get? b = some { cls := .type "list", dict := dd2, data := .seq items2 n2, slots := sl2 } ∧
        (∀ j (h1 : j < items.size) (h2 : j < items2.size), SeqAt.EqP prog w A.in1 s items[j] items2[j] (e j)) ∧
        R (.ok (.ret (.bool (!(List.range items.size).all e)))) s) := by
  intro A R s h
  obtain ⟨hp, g, d, tk, os⟩ := s; obtain ⟨hl, hb, he, h⟩ := h
  have f3 := AutoSeq1.sub_list_list
  have hne : ¬ (items.size != items2.size) = true := by simp [hsz]
  wp_walk using wpAny_loadPart' hl, wpAny_loadPart' hb
  exact ⟨plainId_quiet plain_eq_loop _, codeAny_builtin entry_eq_loop (by
    rw [Around.under_plainId plain_eq_loop _]
    exact ne_loopIn l b items items2 n n2 dd dd2 sl sl2 hsz e _ 0 rfl A R _ ⟨hl, hb, he, by simpa using h⟩)⟩

theorem rcN_lists {prog : Program} {w : World} {A : Around} {s : Shared} {l b : Addr} {items items2 : Array Value} {e : Nat → Bool} (hl : s.heap.IsList l items) (hb : s.heap.IsList b items2) (hsz : items.size = items2.size) (hu : A.units < cLine)
    (he : ∀ j (h1 : j < items.size) (h2 : j < items2.size), SeqAt.EqP prog w A.in1 s items[j] items2[j] (e j)) (E Q : Value → Shared → Prop) (h : Q (.bool (!(List.range items.size).all e)) s) : wpAny (model prog w) A (richCompare .NotEq (.ref l) (.ref b)) Q E s := by
  obtain ⟨⟨cls, dd, data, sl⟩, ho, hc, n, hd⟩ := id hl
  obtain ⟨⟨cls2, dd2, data2, sl2⟩, ho2, hc2, n2, hd2⟩ := id hb
  simp only at hc hd hc2 hd2
  subst hc hd hc2 hd2
  have ta : s.TypeIs (.ref l) "list" := ⟨_, ho, rfl⟩
  have tb : s.TypeIs (.ref b) "list" := ⟨_, ho2, rfl⟩
  exact wpAny_richCompare_same_room (op := .NotEq) ta tb F.slot_list_ne (call_meetsIn F.slot_list_ne ta F.entry_list_ne (F.args_list_ne_2 _ _) (list_neIn l b items items2 n n2 dd dd2 sl sl2 hsz e)
    ⟨ho, ho2, he, show Value.bool (!(List.range items.size).all e) ≠ Value.notImplemented ∧ Q (.bool (!(List.range items.size).all e)) s from ⟨(fun x => nomatch x), h⟩⟩) hu
end
theorem rcX_run (I : Inv X pins σ H s) {A : Around} {F : V → V → Bool → Prop} (hu : A.units + 4 < cLine) (ih : ∀ x y r v u, F x y r → RelV x v → RelV y u → SeqAt.EqP X.prog X.w A.in1 s v u r) {x y : V} {r : Bool} {v u : Value} (h : RcX X.K H F x y r) (rx : RelV x v) (ry : RelV y u)
    (E Q : Value → Shared → Prop) (q : Q (.bool r) s) : wpAny (model X.prog X.w) A (richCompare .Eq v u) Q E s := by
  rcases h with ⟨a, b, xs, ys, e, rfl, rfl, ha, hb, hl, he, rfl⟩ | ⟨a, b, xs, ys, e, rfl, rfl, ha, hb, he, rfl⟩ | ⟨a, b, ks, ls, f, rfl, rfl, ha, hb, hp, rfl⟩
  · cases (show v = Value.ref a from rx)
    cases (show u = Value.ref b from ry)
    obtain ⟨us, r1, p1, _⟩ := I.list ha
    obtain ⟨ws, r2, p2, _⟩ := I.list hb
    have hsz : us.toArray.size = ws.toArray.size := by
      rw [List.size_toArray, List.size_toArray, ← r1.length, ← r2.length]
      exact hl
    refine SeqAt.rcP_lists (e := e) p1.isList p2.isList hsz (by omega) (fun j h1 h2 => ?_) E Q ?_
    · obtain ⟨x1, g1, q1⟩ := vals_at r1 (j := j) (by simpa using h1)
      obtain ⟨x2, g2, q2⟩ := vals_at r2 (j := j) (by simpa using h2)
      have k := ih _ _ _ _ _ (he j _ _ g1 g2) q1 q2
      simpa using k
    · rw [List.size_toArray, ← r1.length]
      exact q
  · cases (show v = Value.ref a from rx)
    cases (show u = Value.ref b from ry)
    obtain ⟨us, r1, p1, _⟩ := I.tuple ha
    obtain ⟨ws, r2, p2, _⟩ := I.tuple hb
    refine rcP_tups (e := e) p1 p2 (by omega) (fun j h1 h2 => ?_) E Q ?_
    · obtain ⟨x1, g1, q1⟩ := vals_at r1 (j := j) (by simpa using h1)
      obtain ⟨x2, g2, q2⟩ := vals_at r2 (j := j) (by simpa using h2)
      have k := ih _ _ _ _ _ (he j _ _ g1 g2) q1 q2
      simpa using k
    · rw [List.size_toArray, List.size_toArray, ← r1.length, ← r2.length]
      exact q
  · cases (show v = Value.ref a from rx)
    cases (show u = Value.ref b from ry)
    obtain ⟨_, ya, va, ra, da⟩ := dt_of I.hok ha
    obtain ⟨_, yb, vb, rb, db⟩ := dt_of I.hok hb
    refine rcH_dicts (knd := tupleKind (mixKind X.prog X.w)) (tupleKind_room_in1 (by omega)) ya yb da db (by omega) (fun hl => hitsH_run ih rb ra (hp (by rw [ra.length, rb.length]; exact hl))) E Q ?_
    rw [← ra.length, ← rb.length]
    exact q
theorem rcXN_run (I : Inv X pins σ H s) {A : Around} {F : V → V → Bool → Prop} (hu : A.units + 4 < cLine) (ih : ∀ x y r v u, F x y r → RelV x v → RelV y u → SeqAt.EqP X.prog X.w A.in1 s v u r) {x y : V} {r : Bool} {v u : Value} (h : RcX X.K H F x y r) (rx : RelV x v) (ry : RelV y u)
    (E Q : Value → Shared → Prop) (q : Q (.bool (!r)) s) : wpAny (model X.prog X.w) A (richCompare .NotEq v u) Q E s := by
  rcases h with ⟨a, b, xs, ys, e, rfl, rfl, ha, hb, hl, he, rfl⟩ | ⟨a, b, xs, ys, e, rfl, rfl, ha, hb, he, rfl⟩ | ⟨a, b, ks, ls, f, rfl, rfl, ha, hb, hp, rfl⟩
  · cases (show v = Value.ref a from rx)
    cases (show u = Value.ref b from ry)
    obtain ⟨us, r1, p1, _⟩ := I.list ha
    obtain ⟨ws, r2, p2, _⟩ := I.list hb
    have hsz : us.toArray.size = ws.toArray.size := by
      rw [List.size_toArray, List.size_toArray, ← r1.length, ← r2.length]
      exact hl
    refine rcN_lists (e := e) p1.isList p2.isList hsz (by omega) (fun j h1 h2 => ?_) E Q ?_
    · obtain ⟨x1, g1, q1⟩ := vals_at r1 (j := j) (by simpa using h1)
      obtain ⟨x2, g2, q2⟩ := vals_at r2 (j := j) (by simpa using h2)
      have k := ih _ _ _ _ _ (he j _ _ g1 g2) q1 q2
      simpa using k
    · rw [List.size_toArray, ← r1.length]
      exact q
  · cases (show v = Value.ref a from rx)
    cases (show u = Value.ref b from ry)
    obtain ⟨us, r1, p1, _⟩ := I.tuple ha
    obtain ⟨ws, r2, p2, _⟩ := I.tuple hb
    refine rcN_tups (e := e) p1 p2 (by omega) (fun j h1 h2 => ?_) E Q ?_
    · obtain ⟨x1, g1, q1⟩ := vals_at r1 (j := j) (by simpa using h1)
      obtain ⟨x2, g2, q2⟩ := vals_at r2 (j := j) (by simpa using h2)
      have k := ih _ _ _ _ _ (he j _ _ g1 g2) q1 q2
      simpa using k
    · rw [List.size_toArray, List.size_toArray, ← r1.length, ← r2.length]
      exact q
  · cases (show v = Value.ref a from rx)
    cases (show u = Value.ref b from ry)
    obtain ⟨_, ya, va, ra, da⟩ := dt_of I.hok ha
    obtain ⟨_, yb, vb, rb, db⟩ := dt_of I.hok hb
    refine rcHN_dicts (knd := tupleKind (mixKind X.prog X.w)) (tupleKind_room_in1 (by omega)) ya yb da db (by omega) (fun hl => hitsH_run ih rb ra (hp (by rw [ra.length, rb.length]; exact hl))) E Q ?_
    rw [← ra.length, ← rb.length]
    exact q

theorem eqX_run (I : Inv X pins σ H s) : ∀ (n : Nat) (A : Around), A.units + n + 64 < cLine → ∀ (x y : V) (r : Bool) (v u : Value), EqX X.K H n x y r → RelV x v → RelV y u → SeqAt.EqP X.prog X.w A s v u r
  | 0, _, _, _, _, _, _, _, h, _, _ => (show False from h).elim
  | n + 1, A, hu, x, y, r, v, u, h, rx, ry => by
    rcases h with ⟨d, e, hd, he, sd, se, rfl⟩ | ⟨a, rfl, rfl, rfl⟩ | ⟨h, hs⟩
    · obtain ⟨as, r1⟩ := Dp.reads I d x v hd rx
      obtain ⟨bs, r2⟩ := Dp.reads I e y u he ry
      exact (SeqAt.eqAt_reads d e A s v u as bs r1 r2 (SeqAt.canLay_of_shaped sd) (SeqAt.canLay_of_shaped se) (SeqAt.room_of_shaped sd (by omega))).eqP
    · cases (show v = Value.ref a from rx)
      cases (show u = Value.ref a from ry)
      exact (SeqAt.EqAt.same _).eqP
    · have step := rcX_run I (A := A) (by omega) (eqX_run I n A.in1 (by show A.units + 1 + n + 64 < cLine; omega)) h rx ry
      obtain ⟨a, b, rfl, rfl⟩ : ∃ a b, x = .ref a ∧ y = .ref b := by
        rcases h with ⟨a, b, _, _, _, e1, e2, _⟩ | ⟨a, b, _, _, _, e1, e2, _⟩ | ⟨a, b, _, _, _, e1, e2, _⟩
        · exact ⟨a, b, e1, e2⟩
        · exact ⟨a, b, e1, e2⟩
        · exact ⟨a, b, e1, e2⟩
      cases (show v = Value.ref a from rx)
      cases (show u = Value.ref b from ry)
      by_cases e : a = b
      · subst e
        rw [hs rfl]
        exact (SeqAt.EqAt.same _).eqP
      · exact SeqAt.eqP_refs e step
end
section
variable {X : Cx}
/-- a == b of such data -/
def rEqX (K : PySem.W.Frag) : R2 := fun x y H Q => ∃ n r, n ≤ 60 ∧ RcX K H (EqX K H n) x y r ∧ Q (.bl r) H
def rNeX (K : PySem.W.Frag) : R2 := fun x y H Q => ∃ n r, n ≤ 60 ∧ RcX K H (EqX K H n) x y r ∧ Q (.bl (!r)) H
theorem op_eqX (hu : X.A.units + 140 < cLine) : OpR X (compareOp .Eq) (rEqX X.K) := by
  intro pins s σ H x y v u Q I rx ry h
  obtain ⟨n, r, hn, h, q⟩ := h
  exact rcX_run I (A := X.A) (by omega) (eqX_run I n X.A.in1 (by show X.A.units + 1 + n + 64 < cLine; omega)) h rx ry _ _ ⟨.bl r, H, I, rfl, q⟩
theorem op_neX (hu : X.A.units + 140 < cLine) : OpR X (compareOp .NotEq) (rNeX X.K) := by
  intro pins s σ H x y v u Q I rx ry h
  obtain ⟨n, r, hn, h, q⟩ := h
  exact rcXN_run I (A := X.A) (by omega) (eqX_run I n X.A.in1 (by show X.A.units + 1 + n + 64 < cLine; omega)) h rx ry _ _ ⟨.bl (!r), H, I, rfl, q⟩
end
end L2

set_option Elab.async false
set_option maxRecDepth 100000
set_option maxHeartbeats 4000000
namespace PySem.W
open PySem PySem.Calls PyProof.Rows PyProof.V PySem.Spec
set_option linter.unusedVariables false
section
variable {prog : Program} {w : World} {A : Around} {E : Value → Shared → Prop} {s : Shared} {K : Frag} {x C L f : Addr} {h₀ : Heap} {m : Str → Option Value} {ox : Obj} {od : Option Obj} {name : Str} {b tb : Value}
theorem ifBound_KB {M : Model} {id : String} {args : List Value} {Q : Option Value → Shared → Prop} (X : K.In s.heap) (I : InstAt s.heap x ox C od) (hs : findIn K (.ref C) name = some (some (.builtin id))) (S : Slot "object" name id)
    (h : wpAny M A (call (.builtin id) (.ref x :: args)) (fun v => Q (some v)) E s) : wpAny M A (callSpecialIfBound? (.ref x) name args) Q E s := by
  simp only [callSpecialIfBound?, bindSpecialIfBound?]
  refine wpAny_holding (wpAny_bind (wpAny_bind (wpAny_bind (I.type.here ((looks_findIn X hs).here ?_)))))
  simp only [S.bind]
  refine wpAny_bind (wpAny_askSetting (wpAny_ite ?_))
  have fin : wpAny M A (call (.builtin id) ([.ref x] ++ args) >>= fun v => pure (some v)) Q E s := wpAny_bind (wpAny_mono h (fun v s' h' => wpAny_pure h') fun _ _ h' => h')
  split
  · exact wpAny_bind (wpAny_pure (wpAny_pure fin))
  · exact wpAny_tryCatch (wpAny_bind (wpAny_pure (wpAny_pure fin)))
theorem check_ne_K {M : Model} {rest : List Value} {Q : Unit → Shared → Prop} (X : K.In s.heap) (I : InstAt s.heap x ox C od) (hob : subIn K (.ref C) (.type "object") = some true) (ha : argsOk "object.__ne__" ⟨.ref x :: rest, []⟩) (hq : Q () s) :
    wpAny M A (checkBuiltinCall "object.__ne__" ⟨.ref x :: rest, []⟩) Q E s := by
  simp only [checkBuiltinCall, PySem.F.cmpKind_ne, PySem.F.cmpSplit_ne]
  refine wpAny_bind (wpAny_bind (I.type.here ((looks_subIn X hob).here ?_)))
  simp only [Bool.not_true, Bool.false_eq_true, if_false]
  cases hsig : Manifest.signature? "object.__ne__" with
  | none => exact wpAny_pure hq
  | some sig =>
    have ha' := ha
    unfold argsOk at ha'
    rw [hsig] at ha'
    have h2 : Bind.checkArgs "object.__ne__" sig ⟨.ref x :: rest, []⟩ = pure () := ha'
    show wpAny M A (Bind.checkArgs "object.__ne__" sig ⟨.ref x :: rest, []⟩) Q E s
    rw [h2]
    exact wpAny_pure hq
/-- x != y by the class's own == -/
theorem cmp_neK {Q : Value → Shared → Prop} (hu : A.units + 1 < cLine) (F : Fr h₀ L s.heap m) (X₀ : K.In h₀) (I : InstAt s.heap x ox C od) (hb : Looks (model prog w) s.heap (typeOf b) tb) (hn : notFirst K C tb = true)
    (hs : findIn K (.ref C) "__ne__" = some (some (.builtin "object.__ne__"))) (hob : subIn K (.ref C) (.type "object") = some true) (he : findIn K (.ref C) "__eq__" = some (some (.ref f))) (hf : isFn K (.ref f) = true)
    (h : wpAny (model prog w) A.in1 (call (.ref f) [.ref x, b]) (fun v s' => ∃ r, v = .bool r ∧ Q (.bool (!r)) s') E s) : wpAny (model prog w) A (richCompare .NotEq (.ref x) b) Q E s := by
  have X := X₀.keeps F.keep
  have body : ∀ {Q2 : Fin → Shared → Prop}, (∀ r s', Q (.bool (!r)) s' → Q2 (.done (.ret (.bool (!r)))) s') → wpAny (model prog w) A.in1 (Builtin.«object.__ne__» ⟨[.ref x, b], []⟩) Q2 E s := fun {Q2} k => by
    unfold Builtin.«object.__ne__»
    repeat (first
      | with_reducible refine wpAny_cRoomFor (show A.in1.units < cLine from hu) ?_
      | (refine wpAny_bind (m := callSpecialIfBound? (.ref x) (Str.ofString "__eq__") [b]) (ifBound_K X I he hf (wpAny_mono h (fun r s' hr => by
          obtain ⟨b, rfl, hq⟩ := hr
          have hq := k b s' hq
          repeat (first | exact hq | exact wpAny_pure hq | exact wpAny_truthy_bool hq | (refine wpAny_bind (m := truthy (.bool _)) (wpAny_truthy_bool ?_)) | wp_step)) fun _ _ e => e)))
      | wp_step)
  have one : wpAny (model prog w) A (tryCompare (.ref x) "__ne__" b) (fun r s' => ∃ v, r = some v ∧ Q v s') E s := by
    unfold tryCompare
    refine wpAny_bind (ifBound_KB X I hs PySem.F.cmp_object.ne (wpAny_call (codeAny_call_builtin PySem.F.cmp_object.ne.plain PySem.F.cmpEntry_ne (check_ne_K X I hob (PySem.F.cmpArgs_ne _ _) (body fun r s' hq => ?_)))))
    first | exact ⟨.bool (!r), rfl, hq⟩ | exact wpAny_pure ⟨_, rfl, hq⟩ | exact wpAny_pure (wpAny_pure ⟨_, rfl, hq⟩)
  unfold richCompare
  simp only [oneThing_ref]
  refine wpAny_holding (wpAny_bind (wpAny_cRoomFor (Nat.lt_of_succ_lt hu) ?_))
  refine wpAny_bind (I.type.here (wpAny_bind (hb.here ?_)))
  split
  · rename_i q
    have e : subIn K tb (.ref C) = some false := by
      rcases Bool.or_eq_true_iff.mp hn with e | e
      · rw [beq_iff_eq.mp e] at q; simp at q
      · exact beq_iff_eq.mp e
    refine wpAny_bind ((looks_subIn X e).here ?_)
    simp only [Bool.false_eq_true, if_false]
    refine wpAny_bind (wpAny_mono one (fun r s' z => ?_) fun _ _ e => e)
    obtain ⟨v, rfl, hq⟩ := z
    exact wpAny_pure hq
  · refine wpAny_bind (wpAny_pure ?_)
    simp only [Bool.false_eq_true, if_false]
    refine wpAny_bind (wpAny_mono one (fun r s' z => ?_) fun _ _ e => e)
    obtain ⟨v, rfl, hq⟩ := z
    exact wpAny_pure hq
end
end PySem.W
namespace L2
open PySem PySem.Spec PyProof.Rows
set_option linter.unusedVariables false
section
variable {X : Cx} {CX : CXT} {k n : Nat} {f C : Addr} {fd : FuncData} {ps ks : List Str} {sp : Sp} {E : XK} {x : Str} {p pos : Pos} {kws : List Keyword} {tk : TA} {g : List Value → List Value → List Value} {gV : List V → List V → List V}
/-- f(k = v, ..) -/
theorem pe_callN0 (F : FnOk X.prog X.w X.K X.mg X.base CX k f fd ps sp) (hr : Room k X.A) (hg : Gl X x) (hm : X.mg x = some (.ref f)) (hk : PySem.W.keepIn X.K (.ref f) = true) (hb : KBn X.K fd ps 0 ks g gV) (hx : Passes CX X E) (hkw : PK X kws tk)
    (hall : (backToKw pos (keywordEach kws X.env)).all (·.1.isSome) = true := by rfl) (hks : (backToKw pos (keywordEach kws X.env)).filterMap (·.1) = ks := by rfl) (hdb : (x == ("__debug__" : Str)) = false := by decide)
    (hpl : ((backTo pos (starEach [] X.env)).any (·.1) || (backToKw pos (keywordEach kws X.env)).any (·.1.isNone)) = false := by rfl) :
    PE X (.Call (.Name x p) [] kws pos) (tCallN 0 ks.length sp gV E tNil tk) := by
  refine ⟨fun pins s σ H Q I h => ?_⟩
  refine wpAny_Call_Name_kw (ld_glob I hg hm ?_ hdb)
  refine PySem.W.callWith_KW0 (h₀ := X.base) I.ok.mod.kin hk hall ?_ hpl
  refine thn (hkw.run pos pins s σ H _ I h) fun ws s2 ⟨zs, H2, I2, rz, l1, l2, q2⟩ => ⟨I2.kIn, ?_⟩
  rw [hks]
  exact run_fnN (us := []) (vs := []) F hr hb hx I2 .nil rz rfl l2 q2
/-- x == y by the own == of x's class: what it tells -/
def rEqO (C : Addr) (sp : Sp) (E : XK) : R2 := fun x y H Q => ∃ a dx fs b dy gs, x = .ref a ∧ y = .ref b ∧ H a = some (.ins C dx fs) ∧ H b = some (.ins C dy gs) ∧ sp [x, y] H (fun v H' => ∃ r, v = .bl r ∧ Q (.bl r) H') E
def rNeO (C : Addr) (sp : Sp) (E : XK) : R2 := fun x y H Q => ∃ a dx fs b dy gs, x = .ref a ∧ y = .ref b ∧ H a = some (.ins C dx fs) ∧ H b = some (.ins C dy gs) ∧ sp [x, y] H (fun v H' => ∃ r, v = .bl r ∧ Q (.bl (!r)) H') E
theorem op_eqO (F : FnOk X.prog X.w X.K X.mg X.base CX n f fd ps sp) (hs : PySem.W.findIn X.K (.ref C) "__eq__" = some (some (.ref f))) (hf : PySem.W.isFn X.K (.ref f) = true) (hb : Binds X.K fd ps []) (hr : Room n X.A) (hx : Passes CX X E) : OpR X (compareOp .Eq) (rEqO C sp E) := by
  intro pins s σ H x y v u Q I rx ry h
  obtain ⟨a, dx, fs, b, dy, gs, rfl, rfl, ha, hb', hsp⟩ := h
  cases (show v = Value.ref a from rx)
  cases (show u = Value.ref b from ry)
  obtain ⟨mA, J, _⟩ := ins_get I.hok ha
  obtain ⟨mB, J', _⟩ := ins_get I.hok hb'
  obtain ⟨od, J, _⟩ := J.look
  obtain ⟨od', J', _⟩ := J'.look
  obtain ⟨m, hF⟩ := I.fr
  show wpAny (model X.prog X.w) X.A (richCompare .Eq (.ref a) (.ref b)) (EP X pins σ Q) X.xe s
  refine PySem.W.cmp_K (op := .Eq) (tb := .ref C) hr.units0 hF I.ok.mod.kin J J'.type (by simp [PySem.W.notFirst]) hs hf ?_
  have hl := F.len _ _ _ _ hsp
  have r2 : Vals [V.ref a, V.ref b] [Value.ref a, Value.ref b] := .cons rfl (.cons rfl .nil)
  refine wpAny_call (codeAny_mono (F.run X.A X.stack s H ⟨[.ref a, .ref b], []⟩ [.ref a, .ref b] [.ref a, .ref b] _ E hr I.env0 (by
    have := hb s [.ref a, .ref b] I.kIn (by simpa using hl)
    simpa using this) r2 hsp) fun r s' hq => ?_)
  cases r with
  | error e => exact hx pins σ H s e s' I hq
  | ok fl =>
    cases fl with
    | ret w =>
      obtain ⟨z, H', I', rz, r, ez, q⟩ := I.after hq
      subst ez
      cases rz
      exact ⟨.bl r, H', I', rfl, q⟩
    | next => exact False.elim hq
    | brk => exact False.elim hq
    | cont => exact False.elim hq
theorem op_neO (F : FnOk X.prog X.w X.K X.mg X.base CX n f fd ps sp) (hs : PySem.W.findIn X.K (.ref C) "__eq__" = some (some (.ref f))) (hne : PySem.W.findIn X.K (.ref C) "__ne__" = some (some (.builtin "object.__ne__"))) (hob : PySem.W.subIn X.K (.ref C) (.type "object") = some true)
    (hf : PySem.W.isFn X.K (.ref f) = true) (hb : Binds X.K fd ps []) (hr : Room (n + 1) X.A) (hx : Passes CX X E) : OpR X (compareOp .NotEq) (rNeO C sp E) := by
  intro pins s σ H x y v u Q I rx ry h
  obtain ⟨a, dx, fs, b, dy, gs, rfl, rfl, ha, hb', hsp⟩ := h
  cases (show v = Value.ref a from rx)
  cases (show u = Value.ref b from ry)
  obtain ⟨mA, J, _⟩ := ins_get I.hok ha
  obtain ⟨mB, J', _⟩ := ins_get I.hok hb'
  obtain ⟨od, J, _⟩ := J.look
  obtain ⟨od', J', _⟩ := J'.look
  obtain ⟨m, hF⟩ := I.fr
  show wpAny (model X.prog X.w) X.A (richCompare .NotEq (.ref a) (.ref b)) (EP X pins σ Q) X.xe s
  refine PySem.W.cmp_neK (tb := .ref C) (by have := hr.un; omega) hF I.ok.mod.kin J J'.type (by simp [PySem.W.notFirst]) hne hob hs hf ?_
  have hl := F.len _ _ _ _ hsp
  have r2 : Vals [V.ref a, V.ref b] [Value.ref a, Value.ref b] := .cons rfl (.cons rfl .nil)
  have e0 : Env0 X.prog X.w X.K X.mg X.base X.A.in1 X.stack s H := I.env0.in1
  refine wpAny_call (codeAny_mono (F.run X.A.in1 X.stack s H ⟨[.ref a, .ref b], []⟩ [.ref a, .ref b] [.ref a, .ref b] _ E hr.in1 e0 (by
    have := hb s [.ref a, .ref b] I.kIn (by simpa using hl)
    simpa using this) r2 hsp) fun r s' hq => ?_)
  cases r with
  | error e => exact hx pins σ H s e s' I hq
  | ok fl =>
    cases fl with
    | ret w =>
      obtain ⟨z, H', I', rz, r, ez, q⟩ := I.after hq
      subst ez
      cases rz
      exact ⟨r, rfl, .bl (!r), H', I', rfl, q⟩
    | next => exact False.elim hq
    | brk => exact False.elim hq
    | cont => exact False.elim hq
end
end L2

set_option Elab.async false
set_option maxRecDepth 100000
set_option maxHeartbeats 4000000
namespace L2
open PySem PySem.Spec PyProof.Rows
set_option linter.unusedVariables false
/-! dict(xs) of a list of pairs whose keys are tuples -/
def rDictPT (K : PySem.W.Frag) : List V → Hp → VK → Prop := fun xs H Q => ∃ (a : Addr) (ps : List Addr) (kvs : List (List Key × V)), xs = [.ref a] ∧ SqL K H a (ps.map V.ref) ∧ Paired (fun p kv => ∃ b, SqT K H p [.ref b, kv.2] ∧ H b = some (.tup (kv.1.map kV))) ps kvs ∧
    ∀ p, H p = none → Q (.ref p) (upd H p (.dT (mergeT [] kvs)))
section
variable {X : Cx} {pins : List (Addr × Obj)} {σ : St} {H : Hp} {s : Shared}
theorem pairsT_of (I : Inv X pins σ H s) : ∀ {ps : List Addr} {kvs : List (List Key × V)}, Paired (fun p kv => ∃ b, SqT X.K H p [.ref b, kv.2] ∧ H b = some (.tup (kv.1.map kV))) ps kvs →
    ∃ rs : List (List Key × Addr × Value), KT H kvs rs ∧ rs.length = ps.length ∧ ∀ (j : Nat) (q : List Key × Addr × Value), rs[j]? = some q → ∃ p, ps[j]? = some p ∧ s.heap.IsTuple p #[.ref q.2.1, q.2.2]
  | _, _, .nil => ⟨[], .nil, rfl, fun j q e => by simp at e⟩
  | _, _, .cons (a := p) (b := kv) h t => by
    obtain ⟨rs, r, hl, hp⟩ := pairsT_of I t
    obtain ⟨b, h, hb⟩ := h
    obtain ⟨its, rv, ht, _⟩ := I.tuple h
    obtain ⟨u, y, ei, ru, ry⟩ := vals2 rv
    subst ei
    cases (show u = Value.ref b from ru)
    refine ⟨(kv.1, b, y) :: rs, .cons ⟨rfl, hb, ry⟩ r, by rw [List.length_cons, List.length_cons, hl], fun j q e => ?_⟩
    cases j with
    | zero =>
      have e' : (kv.1, b, y) = q := Option.some.inj e
      subst e'
      exact ⟨p, rfl, ht⟩
    | succ j =>
      obtain ⟨c, e1, e2⟩ := hp j q (by simpa using e)
      exact ⟨c, by simpa using e1, e2⟩
end
theorem KT.len {H : Hp} {kvs : List (List Key × V)} {rs : List (List Key × Addr × Value)} (r : KT H kvs rs) : kvs.length = rs.length := Paired.length r
theorem KT.at {H : Hp} : ∀ {kvs : List (List Key × V)} {rs : List (List Key × Addr × Value)}, KT H kvs rs → ∀ x ∈ rs, H x.2.1 = some (.tup (x.1.map kV))
  | _, _, .nil, _, m => (nomatch m)
  | _, _, .cons h t, x, m => by
    rcases List.mem_cons.mp m with rfl | m
    · rw [← h.1]; exact h.2.1
    · exact KT.at t x m
theorem call_dictPT {X : Cx} (hcalm : X.calm = true) (hu : X.A.units + 2 < cLine) : CallR X (.type "dict") (rDictPT X.K) := by
  intro pins s σ H xs us Q I r q
  obtain ⟨a, ps, kvs, ex, hq, hp, q⟩ := q
  subst ex
  obtain ⟨u, eu, rx⟩ := vals1 r
  subst eu
  cases rx
  obtain ⟨its, rv, pl, hz⟩ := I.list hq
  have ei := refs_at rv
  subst ei
  rw [List.length_map] at hz
  obtain ⟨rs, rel, hl, hpr⟩ := pairsT_of I hp
  obtain ⟨o, n, ho, hc, hd, hdat⟩ := pl
  have hlr : (rs.map fun q => (Value.ref q.2.1, q.2.2)).length = ps.length := by rw [List.length_map, hl]
  have hitem : PairItems s.heap (ps.map Value.ref).toArray (fun j => ps.getD j 0) (rs.map fun q => (Value.ref q.2.1, q.2.2)) := by
    refine ⟨by simp [hl], fun j k v e => ?_⟩
    rw [List.getElem?_map] at e
    obtain ⟨x, hx, ex⟩ := Option.map_eq_some_iff.mp e
    injection ex with e1 e2
    subst e1 e2
    obtain ⟨p, e1, e2⟩ := hpr j x hx
    have eg : ps.getD j 0 = p := by rw [List.getD_eq_getElem?_getD, e1]; rfl
    refine ⟨?_, .inl ?_⟩
    · show _ = some (Value.ref (ps.getD j 0))
      rw [List.getElem?_toArray, List.getElem?_map, e1, eg]
      rfl
    · show s.heap.IsTuple (ps.getD j 0) _
      rw [eg]
      exact e2
  refine call_dict_pairsH (knd := tupleKind (mixKind X.prog X.w)) (ps := rs) (PairArg.list a (ps.map Value.ref).toArray (fun j => ps.getD j 0) (rs.map fun q => (Value.ref q.2.1, q.2.2))) (I.ok.hd hcalm) (show X.A.units + 2 < cLine from hu) ⟨⟨o, n, ho, hc, hd, hdat⟩, hitem⟩ ⟨by rw [hlr, hl], fun i key v e => ?_⟩ (fun h' hk x hx => ?_) (by rw [hlr]; exact hz) fun h' tk hd' hk => ?_
  · have e : (rs.map fun q => (Value.ref q.2.1, q.2.2))[i]? = some (key, v) := e
    rw [List.getElem?_map] at e
    obtain ⟨x, hx, ex⟩ := Option.map_eq_some_iff.mp e
    injection ex with e1 e2
    exact ⟨x.1, x.2.1, by rw [hx, ← e2], e1.symm⟩
  · obtain ⟨o1, its, m, h1, h2, h3, h4⟩ := (show IsTupleKey (mixKind X.prog X.w) s.heap x.1 x.2.1 from key_of I.hok (rel.at x hx))
    exact ⟨o1, its, m, hk _ _ (Nat.ne_of_lt (Heap.lt_size h1)) (fun c => nomatch c) h1, h2, h3, h4⟩
  · have hm : (s.heap.objs.size == sysModules) = false := beq_eq_false_iff_ne.mpr (Nat.ne_of_gt I.big)
    have hf := I.hok.fresh (Nat.le_refl s.heap.objs.size)
    have hlen : (mergeT [] kvs).length ≤ sizeLine := by
      have h1 := length_mergeT kvs []
      rw [List.length_nil, Nat.zero_add] at h1
      have := rel.len
      omega
    obtain ⟨o1, es, ep, h1, h2, h3, h4, _, h6⟩ := hd'
    exact ⟨.ref s.heap.objs.size, upd H s.heap.objs.size (.dT (mergeT [] kvs)), I.laid (t' := tk) (fun b u e => hk b u (fun c => nomatch c) e) (Nat.le_refl _)
      (show ObjOk X.prog X.w _ _ _ (.dT (mergeT [] kvs)) from ⟨hlen, hm, _, (rel.merge .nil).keeps (fun c ys ec => (by rw [upd_ne (ne_of_none ec hf)]; exact ec)), o1, es, ep, h1, h2, h3, h4, h6⟩), rfl, q _ hf⟩
end L2

set_option Elab.async false
set_option maxRecDepth 100000
set_option maxHeartbeats 4000000
/-! t[::-1], t a tuple of two -/
namespace HT
open PySem PySem.Calls PyProof.Rows
section
variable {prog : Program} {w : World} {A : Around} {E : Value → Shared → Prop} {s : Shared}
theorem turned_two {sl : Addr} {vl vu vs : Value} {R : Int × Int × Nat → Shared → Prop} (sh : s.heap.IsSliceOf sl vl vu vs) (pl : IsPart vl none) (pu : IsPart vu none) (ps : IsPart vs (some (-1))) (fin : R (1, -1, 2) s) :
    wpAny (model prog w) A (Builtin.Slice.sliceApplied (.ref sl) (pure ((2 : Nat) : Int))) R E s := by
  obtain ⟨o, ho, hc, hd⟩ := id sh
  unfold Builtin.Slice.sliceApplied Builtin.Slice.sliceFields
  refine wpAny_bind (wpAny_bind (wpAny_field ho hd (x := vl) rfl (wpAny_bind (wpAny_field ho hd (x := vu) rfl (wpAny_bind (wpAny_field ho hd (x := vs) rfl (wpAny_pure ?_)))))))
  refine wpAny_bind (slicePart_ ps ?_)
  show wpAny _ _ (if ((-1 : Int) == 0) = true then _ else _) _ _ s
  rw [if_neg (show ¬ ((-1 : Int) == 0) = true by decide)]
  refine wpAny_bind (slicePart_ pl (wpAny_bind (slicePart_ pu (wpAny_bind (wpAny_pure (wpAny_pure ?_))))))
  exact fin
theorem pair_turned {t sl : Addr} {v0 v1 vl vu vs : Value} {R : Value → Shared → Prop} (ht : IsTup s.heap t #[v0, v1]) (sh : s.heap.IsSliceOf sl vl vu vs) (pl : IsPart vl none) (pu : IsPart vu none) (ps : IsPart vs (some (-1)))
    (fin : R (.ref s.heap.objs.size) { s with heap := s.heap.push { cls := .type "tuple", data := .seq #[v1, v0] } }) : wpAny (model prog w) A (getItem (.ref t) (.ref sl)) R E s := by
  have fits : sizeOk (.seq #[v1, v0]) := by
    show 2 ≤ sizeLine
    decide
  obtain ⟨o, ho, hc, hd⟩ := id sh
  have isSl : s.TypeIs (.ref sl) "slice" := ⟨o, ho, hc⟩
  unfold getItem
  try with_reducible refine wpAny_holding ?_
  first | refine wpAny_bind (wpAny_pure ?_) | skip
  refine wpAny_bind (wpAny_sequenceKey ht.typeIs (by decide) ?_)
  refine wpAny_bind (wpAny_callSpecial?_slot (name := Str.ofString "__getitem__") ht.typeIs PyProof.Rows.slot_tuple_getitem (wpAny_call_entry PyProof.Rows.slot_tuple_getitem ht.typeIs entry_tuple_getitem ?_ (args_tuple_getitem _ _)))
  show wpAny _ _ (Builtin.Tuple.tupleItemsOf (.ref t) >>= _) _ _ s
  refine wpAny_bind (tupleItemsOf_ ht (wpAny_bind (wpAny_typeOf isSl ?_)))
  rw [if_pos (by decide)]
  refine wpAny_bind (turned_two sh pl pu ps ?_)
  show wpAny _ _ (if ((1 : Int) == 0 && (-1 : Int) == 1 && (2 : Nat) == 2) = true then _ else _) _ _ s
  rw [if_neg (by decide)]
  first
    | exact wpAny_bind (m := Builtin.Tuple.tupleExact _) (wpAny_newObj_type (wpAny_pure ⟨_, rfl, wpAny_pure fin⟩) fits)
    | exact wpAny_bind (m := Builtin.Tuple.tupleExact _) (wpAny_newObj_type (wpAny_bind (wpAny_pure (wpAny_pure ⟨_, rfl, wpAny_pure fin⟩))) fits)
    | exact wpAny_bind (wpAny_bind (m := Builtin.Tuple.tupleExact _) (wpAny_newObj_type (wpAny_pure (wpAny_pure ⟨_, rfl, wpAny_pure fin⟩)) fits))
    | exact wpAny_bind (wpAny_bind (m := Builtin.Tuple.tupleExact _) (wpAny_newObj_type (wpAny_pure ⟨_, rfl, wpAny_pure fin⟩) fits))
end
end HT
namespace L2
open PySem PySem.Spec PyProof.Rows
variable {X : Cx}
def tRevT (K : PySem.W.Frag) (te : TE) : TE := fun σ H Q => te σ H fun x H1 => ∃ a y z, x = .ref a ∧ SqT K H1 a [y, z] ∧ ∀ p, H1 p = none → Q (.ref p) (upd H1 p (.tup [z, y]))
theorem pe_revT {e : Expr} {te : TE} {k : Nat} {p1 p2 p3 pos : Pos} (he : PE X e te) : PE X (.Subscript e (.Slice none none (some (.UnaryOp .USub (.Constant (.int 1) k p1) p2)) p3) pos) (tRevT X.K te) := by
  refine ⟨fun pins s σ H Q I h => ?_⟩
  refine Subscript_ (thn (he.run pins s σ H _ I h) fun v s1 ⟨x, H1, I1, r1, q1⟩ => ?_)
  obtain ⟨a, y, z, rfl, hx, q⟩ := q1
  cases r1
  have back : PO X (some (.UnaryOp .USub (.Constant (.int 1) k p1) p2)) (tPart (tUn (rU fun i => .int (-i)) (tC (.int 1)))) := po_some (pe_un un_neg pe_int)
  refine wpAny_Slice (thn (po_none.run pins s1 σ H1 (fun o H2 => o = none ∧ H2 = H1) I1 ⟨rfl, rfl⟩) fun vl s2 ⟨l, H2, I2, pl, el, e2⟩ => ?_)
  subst el e2
  refine thn (po_none.run pins s2 σ H2 (fun o H3 => o = none ∧ H3 = H2) I2 ⟨rfl, rfl⟩) fun vu s3 ⟨u, H3, I3, pu, eu, e3⟩ => ?_
  subst eu e3
  refine thn (back.run pins s3 σ H3 (fun o H4 => o = some (-1) ∧ H4 = H3) I3 ⟨1, rfl, -1, rfl, rfl, rfl⟩) fun vs s4 ⟨o, H4, I4, ps, eo, e4⟩ => ?_
  subst eo e4
  have I5 : Inv X pins σ H4 { s4 with heap := s4.heap.push { cls := .type "slice", data := .fields #[vl, vu, vs] } } := I4.kept (t' := s4.toks) fun _ _ q => Heap.get?_push_of_some _ q
  obtain ⟨its, r, ht, hz⟩ := I5.tuple hx
  obtain ⟨v0, v1, rfl, r0, r1⟩ : ∃ v0 v1, its = [v0, v1] ∧ RelV y v0 ∧ RelV z v1 := by
    cases r with
    | cons a0 r => cases r with
      | cons a1 r => cases r; exact ⟨_, _, rfl, a0, a1⟩
  show wpAny (model X.prog X.w) X.A (subscriptTail e (.Slice none none (some (.UnaryOp .USub (.Constant (.int 1) k p1) p2)) p3) (.ref a) (.ref s4.heap.objs.size)) (EP X pins σ Q) X.xe { s4 with heap := s4.heap.push { cls := .type "slice", data := .fields #[vl, vu, vs] } }
  refine tail_any (ops := [.ref a, .ref s4.heap.objs.size]) ht.typeIs (PyProof.Rows.slot_tuple_getitem.lookup) ?_ (by with_unfolding_all rfl)
  refine HT.pair_turned ht (Heap.IsSliceOf.new _ vl vu vs) pl pu ps ?_
  refine ⟨.ref _, _, I5.laid (t' := s4.toks) (o := .tup [z, y]) (fun _ _ q => Heap.get?_push_of_some _ q) (Nat.le_refl _) ?_, rfl, q _ (I5.hok.fresh (Nat.le_refl _))⟩
  exact ⟨(by show 2 ≤ sizeLine; decide), _, .cons r1 (.cons r0 .nil), IsTup.new _ _⟩
end L2

set_option Elab.async false
set_option maxRecDepth 100000
set_option maxHeartbeats 4000000
namespace L2
open PySem PySem.Spec PyProof.Rows
set_option linter.unusedVariables false
/-! name = {k: e for ..} on one line, the name a local -/
theorem sw_trueD {kx vx : Expr} {gs : List Comprehension} {scope : Scope} {pos py : Pos} {y : PySem.Str} {l : Nat} {env : Env} (hk : env.scope.kind = .function) (hy : env.scope.names.lookup y = some .local) (hl : (py.line == pos.line) = true)
    (ha : (scope.names.any fun (n, k) => n == y && (k == .local || k == .cell)) = false) : swapsWith (.DictComp kx vx gs scope pos) (some (.Name y py)) l env = pure true := by
  have ky : env.kindOf y = some .local := hy
  have hb : env.blockKind = .function := by unfold Env.blockKind; rw [hk]; rfl
  unfold swapsWith
  simp only [hb, ky, ha, Expr.pos, hl]
  rfl
section
variable {X : Cx}
theorem ps_setDcT {i : Nat} {y : PySem.Str} {py : Pos} {kx vx tg iter : Expr} {ifs : List Expr} {scope : Scope} {own : List (PySem.Str × Nat)} {pos spos : Pos} {wi : TI} {g : TG} {tt : TT} {tk tv : TE} (hu : X.A.units + 1 < cLine) (hc : X.calm = true) (hN : X.N.Nodup) (hy : X.N[i]? = some y) (hyl : X.env.scope.names.lookup y = some .local)
    (hsw : swapsWith (.DictComp kx vx [⟨tg, iter, ifs, 0⟩] scope pos) (some (.Name y py)) spos.line X.env = pure true) (hi : PI X tg iter wi) (ok : BlkOk X.N X.env.scope scope own)
    (hg : ∀ (s : Shared) (H : Hp) (C : Addr) (cl : List (PySem.Str × Addr)) (fp : List Addr), PG (X.blk s H scope (compEnvC scope cl C X.env) fp) tg g)
    (ht : ∀ (s : Shared) (H : Hp) (C : Addr) (cl : List (PySem.Str × Addr)) (fp : List Addr), PTs (X.blk s H scope (compEnvC scope cl C X.env) fp) ifs tt)
    (hk : ∀ (s : Shared) (H : Hp) (C : Addr) (cl : List (PySem.Str × Addr)) (fp : List Addr), PE (X.blk s H scope (compEnvC scope cl C X.env) fp) kx tk)
    (he : ∀ (s : Shared) (H : Hp) (C : Addr) (cl : List (PySem.Str × Addr)) (fp : List Addr), PE (X.blk s H scope (compEnvC scope cl C X.env) fp) vx tv)
    (hs : ∀ x, foldedSetIterable iter X.env x = pure x := by intro _; rfl) :
    PS X (.Assign [.Name y py] (.DictComp kx vx [⟨tg, iter, ifs, 0⟩] scope pos) spos) (tAsg (tGather (fun _ => .dT []) wi g tt (addT tk tv) (own.map (·.2))) (gName i)) := by
  refine ⟨fun pins s σ H D I h => ?_⟩
  rw [exec_Assign_Name_used _ _ _ _ hsw]
  refine wpAny_bind (wpAny_standAt (wpAny_bind ?_))
  show wpAny _ X.A (do let _ ← comprehension (.DictComp kx vx [⟨tg, iter, ifs, 0⟩] scope pos) scope X.env (firstIterPos [⟨tg, iter, ifs, 0⟩] pos) newDict false (eval iter X.env) (some (assign (.Name y py) X.env))) _ _ s
  have h : tGather (fun _ => .dT []) wi g tt (addT tk tv) (own.map (·.2)) σ H (fun x H1 => gName i x σ H1 D.nx) := h
  refine wpAny_bind (thn (gather_core (Qf := fun _ s' => SP X pins D .next s') (use := some (assign (.Name y py) X.env)) (ob := { cls := .type "dict", data := .dict #[] }) (mk := newDict) (o0 := fun _ => .dT []) (add := addT tk tv)
    (Body := fun acc env R back s => match acc with
      | .ref D => wpAny (model X.prog X.w) X.A (eval kx env) (fun kv s4 => wpAny (model X.prog X.w) X.A (eval vx env) (fun vv s5 => wpAny (model X.prog X.w) X.A (dictSet D kv vv) (fun _ s6 => back s6) (notedBy (model X.prog X.w) X.A env fun e s' => R (.error e) s') s5)
          (notedBy (model X.prog X.w) X.A env fun e s' => R (.error e) s') s4) (notedBy (model X.prog X.w) X.A env fun e s' => R (.error e) s') s
      | _ => False)
    hc hN I hi ok rfl (fun A E s Q q => wpAny_newObj_type q) (fun h H hb => dt_empty h hb) (fun it D env R I turn n s => compLoop_anyD I turn n) (fun it acc env R s a b => codeAny_compStart_dict a b) hg ht ?_ hs h ?_) fun _ s' hq => wpAny_pure (wpAny_pure hq))
  · intro s H C cl fp D R Nx back pins' σ2 H3 s3 I3 q3 k
    refine thnF ((hk s H C cl fp).run _ s3 σ2 H3 _ I3 q3) fun z s4 ⟨yk, H4, I4, r4, q4⟩ => ?_
    refine thnF ((he s H C cl fp).run _ s4 σ2 H4 _ I4 q4) fun z2 s5 ⟨yv, H5, I5, r5, kvs, ks, b, ey, hb, hD, hz, nx⟩ => ?_
    subst ey
    cases (show z = Value.ref b from r4)
    obtain ⟨hl, hd, xs, rel, dd⟩ := dt_of I5.hok hD
    have hz' : xs.length ≤ sizeLine := by rw [← Paired.length rel]; exact hl
    have grown : (putK kvs ks yv).length ≤ sizeLine := by have := length_putK kvs ks yv; omega
    refine wpAny_dictSet_heap (hsz := hz') (show X.A.units < cLine by omega) (key_of I5.hok hb) dd fun h' dd' same => k _ _ ?_ nx
    obtain ⟨q, es, ep, hq, h2, h3, h4, _, h5⟩ := dd'
    refine d_write I5 (by rw [hD]; exact True.intro) same ⟨q, hq⟩ ⟨grown, hd, _, (rel.put ks hb r5).keeps fun c ys ec => ?_, q, es, ep, hq, h2, h3, h4, h5⟩
    rw [upd_ne (ne_of ec hD (fun z => nomatch z))]
    exact ec
  · intro L C s' m H' I' q hn f
    show wpAny _ _ (assign (.Name y py) X.env (.ref L)) _ _ _
    refine wpAny_assign_Name (store_ok2 (v := V.ref L) I' hN hy (.inl hyl) rfl (fun s2 I2 ⟨a, sb, ha⟩ => ?_) (.inr hyl))
    obtain ⟨f0, f1, f2, f3, f4, f5⟩ := f
    have haC : C ≠ a := by
      rcases ha with z | z
      · rw [z]; exact f1
      · exact fun e => f4 y a z e.symm
    refine ⟨m, hn.sameBut sb haC, fun h3 sb3 => ?_⟩
    exact ⟨_, H', I2.turned (t' := s2.toks) (fun b o hb e => (sb3.2 b hb).trans e) f0 f1 f3 f4 f5, q⟩
end
end L2

set_option Elab.async false
set_option maxRecDepth 100000
set_option maxHeartbeats 4000000
namespace DT
open PySem PySem.W PySem.Calls PyProof.Rows PyProof.V PySem.Spec
set_option linter.unusedVariables false
/-! sorted(d.items()), the keys pairs of two ints, no two alike, the values of any kind -/
abbrev P2 := Int × Int
abbrev nsP (y : P2) : List Int := [y.1, y.2]
theorem nsP_inj {y z : P2} (h : nsP y = nsP z) : y = z := by
  injection h with h1 h2
  injection h2 with h2 _
  exact Prod.ext h1 h2
theorem lex_code {y z : P2} (hy : TS.Bd 64 (nsP y)) (hz : TS.Bd 64 (nsP z)) : HT.lexLt (nsP y) (nsP z) = decide (TS.code 64 (nsP y) < TS.code 64 (nsP z)) := by
  obtain ⟨a, b⟩ := y
  obtain ⟨c, d⟩ := z
  rw [HT.lexLt_cons]
  split
  · rename_i e
    have e : a = c := e
    subst e
    rw [HT.lexLt_cons]
    split
    · rename_i e2
      have e2 : b = d := e2
      subst e2
      rw [HT.lexLt_nil_nil]
      exact (decide_eq_false (Int.lt_irrefl _)).symm
    · rename_i e2
      have e2 : ¬ b = d := e2
      refine decide_eq_decide.mpr ?_
      rw [TS.code_same (d := a) (r := [b]) (q := [d]) rfl]
      refine ⟨fun h => TS.code_lt (r := []) (q := []) rfl (fun _ hm => nomatch hm) (fun _ hm => nomatch hm) h, fun h => ?_⟩
      rcases Int.lt_trichotomy b d with k | k | k
      · exact k
      · exact absurd k e2
      · have := TS.code_lt (B := 64) (r := []) (q := []) rfl (fun _ hm => nomatch hm) (fun _ hm => nomatch hm) k
        omega
  · rename_i e
    have e : ¬ a = c := e
    refine decide_eq_decide.mpr ⟨fun h => TS.code_lt (r := [b]) (q := [d]) rfl hy.tail hz.tail h, fun h => ?_⟩
    rcases Int.lt_trichotomy a c with k | k | k
    · exact k
    · exact absurd k e
    · exact absurd h (Int.lt_asymm (TS.code_lt (B := 64) (r := [d]) (q := [b]) rfl hz.tail hy.tail k))
/-- the ints of a pair's key, read off the heap -/
def keyNs (h : Heap) (v : Value) : List Int := TS.intsOf h (.ref (refOf (seqAt0 h (refOf (some v)))))
/-- v is a tuple of a pair of ints, y, and the value u -/
def PairV (h : Heap) (v : Value) (y : P2) (u : Value) : Prop := ∃ (a k : Addr) (t t' : Tok), v = .ref a ∧ IsTup h a #[.ref k, u] ∧ IsTup h k #[.int y.1 t, .int y.2 t']
theorem tup_ints {h : Heap} {k : Addr} {y : P2} {t t' : Tok} (x : IsTup h k #[.int y.1 t, .int y.2 t']) : TS.TupInts h (.ref k) (nsP y) := ⟨k, _, rfl, x, .cons _ _ (.cons _ _ .nil)⟩
theorem PairV.ns {h : Heap} {v : Value} {y : P2} {u : Value} (x : PairV h v y u) : keyNs h v = nsP y := by
  obtain ⟨a, k, t, t', rfl, h1, h2⟩ := x
  show TS.intsOf h (.ref (refOf (seqAt0 h a))) = nsP y
  rw [seqAt0_of h1]
  show TS.intsOf h (.ref k) = nsP y
  exact (tup_ints h2).ints
theorem firsts_ofV {h : Heap} {M : P2 → Value} : ∀ vs : List Value, (∀ v ∈ vs, ∃ y, PairV h v y (M y)) → ∃ fs : List Value, KatTups h vs fs ∧ fs.length = vs.length ∧ ∀ f ∈ fs, ∃ (q : Addr) (o : Obj), f = Value.ref q ∧ h.get? q = some o ∧ o.cls = .type "tuple"
  | [], _ => ⟨[], KatTups.nil, rfl, fun f hf => nomatch hf⟩
  | v :: vs, x => by
    obtain ⟨fs, k, hl, hi⟩ := firsts_ofV vs fun u hu => x u (List.mem_cons_of_mem _ hu)
    obtain ⟨y, a, q, t, t', rfl, ⟨o, ho, hc, n, hd⟩, ⟨o2, ho2, hc2, _⟩⟩ := x v (List.mem_cons_self ..)
    refine ⟨.ref q :: fs, KatTups.cons ho hc hd rfl k, by rw [List.length_cons, List.length_cons, hl], fun f hf => ?_⟩
    rcases List.mem_cons.mp hf with rfl | hf
    · exact ⟨q, o2, rfl, ho2, hc2⟩
    · exact hi f hf
section
variable {prog : Program} {w : World} {A : Around} {E : Value → Shared → Prop} {s : Shared}
theorem key_ints {k : Addr} {y : P2} {t t' : Tok} (x : IsTup s.heap k #[.int y.1 t, .int y.2 t']) : IsTupleKey (L2.mixKind prog w) s.heap [Sum.inl y.1, Sum.inl y.2] k := by
  obtain ⟨o, ho, hc, n, hd⟩ := x
  exact ⟨o, _, n, ho, hc, hd, .cons (L2.mixKind_int prog w _ _) (.cons (L2.mixKind_int prog w _ _) .nil)⟩
theorem kind_tv {vs : List Value} {M : P2 → Value} (h2 : 2 ≤ vs.length) (hu : A.units < cLine) (x : ∀ v ∈ vs, ∃ y, PairV s.heap v y (M y) ∧ TS.Bd 64 (nsP y)) (Q : SortKind → Shared → Prop)
    (h : ∀ κ, TS.Cmp prog w A s κ (pairsOf vs) (fun v => TS.code 64 (keyNs s.heap v)) → Q κ s) : wpAny (model prog w) A (keyKind' vs.toArray) Q E s := by
  obtain ⟨fs, k, hl, hi⟩ := firsts_ofV (M := M) vs fun v hv => let ⟨y, p, _⟩ := x v hv; ⟨y, p⟩
  refine kat_kind (T := Value.type "tuple") k (by omega) (fun f hf => ?_) rfl (h _ ?_)
  · obtain ⟨q, o, rfl, ho, hc⟩ := hi f hf
    have z : PySem.W.Looks (model prog w) s.heap (typeOf (.ref q)) o.cls := (PySem.W.Looks.ld ho).andThen .now
    rw [hc] at z
    exact z
  · have hb : (Value.type "tuple" != Value.type "tuple") = false := by simp
    rw [hb]
    intro p q hp hq Q' E' hQ
    rw [pairsOf_toList] at hp hq
    have mp := (mem_zip_self hp).2
    have mq := (mem_zip_self hq).2
    obtain ⟨y, py, by_⟩ := x _ mp
    obtain ⟨z, pz, bz⟩ := x _ mq
    have hQ' : Q' (HT.lexLt (nsP y) (nsP z)) s := by
      rw [lex_code by_ bz]
      have hQ2 : Q' (decide (TS.code 64 (keyNs s.heap p.1) < TS.code 64 (keyNs s.heap q.1))) s := hQ
      rw [py.ns, pz.ns] at hQ2
      exact hQ2
    obtain ⟨a, ka, t, t2, e1, ⟨o, ho, hc, n, hd⟩, g⟩ := py
    obtain ⟨a', kb, u, u2, e2, ⟨o', ho', hc', n', hd'⟩, g'⟩ := pz
    rw [e1, e2]
    refine kat_lt ho hd ho' hd' ?_
    show KatLex prog w A false false Q' [(Value.ref ka, Value.ref kb), (M y, M z)] 0 s
    by_cases e : y = z
    · subst e
      have irr : HT.lexLt (nsP y) (nsP y) = false := by rw [lex_code by_ by_]; exact decide_eq_false (Int.lt_irrefl _)
      rw [irr] at hQ'
      refine kat_cons (wpAny_eqBool_tuple hu (key_ints g) (key_ints g') ?_)
      refine kat_go (fun _ => ?_) (fun e0 => absurd rfl (of_decide_eq_false e0))
      refine kat_yes (kat_cons (SeqAt.EqAt.same (A := A) (s := s) (M y) prog w _ _ ?_))
      exact kat_yes (kat_nil hQ')
    · refine kat_cons (wpAny_eqBool_tuple hu (key_ints g) (key_ints g') ?_)
      refine kat_go (fun e0 => ?_) (fun _ => ?_)
      · exfalso
        have z0 := of_decide_eq_true e0
        injection z0 with z1 z2
        injection z1 with z1
        injection z2 with z2 _
        injection z2 with z2
        exact e (Prod.ext z1 z2)
      · refine kat_no ?_
        show wpAny _ _ (oneLt' false _ _) _ _ _
        obtain ⟨_, _, r1, r2, r3⟩ := tup_ints g
        obtain ⟨_, _, r1', r2', r3'⟩ := tup_ints g'
        injection r1 with r1
        injection r1' with r1'
        subst r1 r1'
        exact kat_one _ _ (HT.lt_tupInts r2 r2' r3 r3' hu hQ')
end
end DT
namespace L2
open PySem PySem.Spec PyProof.Rows L2.DX
set_option linter.unusedVariables false
abbrev entI (e : DT.P2 × V) : List L2.Key × V := ([Sum.inl e.1.1, Sum.inl e.1.2], e.2)
/-- sorted(d.items()) by keys of two ints; the values refs -/
def rSortIV : List V → Hp → VK → Prop := fun vs H Q => ∃ (p a : Addr) (ks : List (DT.P2 × Addr)), vs = [.ref p] ∧ H p = some (itemsO p a) ∧ H a = some (.dT (ks.map fun e => entI (e.1, .ref e.2))) ∧ ks.length < 64 ∧
  (ks.map (·.1)).Nodup ∧ (∀ e ∈ ks, TS.Bd 64 (DT.nsP e.1)) ∧
  ∀ (H' : Hp) (l : Addr) (ps : List (Addr × DT.P2 × Addr)), (∀ b o, H b = some o → H' b = some o) → H l = none → (ps.map (·.2)).Perm ks → (ps.map (·.2)).Pairwise (fun e f => TS.code 64 (DT.nsP e.1) ≤ TS.code 64 (DT.nsP f.1)) → H' l = some (.lst (ps.map fun z => V.ref z.1)) →
    (∀ z ∈ ps, ∃ q, H' z.1 = some (.tup [.ref q, .ref z.2.2]) ∧ H' q = some (.tup [.int z.2.1.1, .int z.2.1.2])) → Q (.ref l) H'
def look (ks : List (DT.P2 × Addr)) (y : DT.P2) : Addr := (ks.lookup y).getD 0
theorem look_at : ∀ {ks : List (DT.P2 × Addr)}, (ks.map (·.1)).Nodup → ∀ e ∈ ks, look ks e.1 = e.2
  | [], _, _, h => nomatch h
  | x :: ks, hn, e, h => by
    rw [List.map_cons, List.nodup_cons] at hn
    unfold look
    rcases List.mem_cons.mp h with rfl | h
    · simp [List.lookup]
    · have ne : (e.1 == x.1) = false := beq_eq_false_iff_ne.mpr fun z => hn.1 (by rw [← z]; exact List.mem_map.mpr ⟨e, h, rfl⟩)
      rw [List.lookup_cons, ne]
      exact look_at hn.2 e h
theorem cr_sortedIV {X : Cx} (hc : X.calm = true) (hu : X.A.units + 64 < cLine) : CallR X (.builtin "sorted") rSortIV := by
  intro pins s σ H xs us Q I r h
  obtain ⟨p, a, ks, rfl, hp, ha, h64, hnd, hbd, q⟩ := h
  obtain rfl := Vals.ref1 r
  have view : s.heap.IsItemsView p a := (show ObjOk X.prog X.w H s.heap p (itemsO p a) from I.hok p _ hp).1
  obtain ⟨z, hd, xs', rel, o, es, ep, ho, hx, hdat, hes, his, hn⟩ := dt_of I.hok ha
  have l1 : (ks.map fun e => entI (e.1, V.ref e.2)).length = xs'.length := Paired.length rel
  rw [List.length_map] at l1
  have l2 : es.size = xs'.length := size_of_entries hes
  have hh : X.A.handled = none := I.ok.hd hc
  refine DT.sortedI (es := es) (ep := ep) hh view ⟨o, ho, hx, hdat⟩ (by rw [sizeLine_eq]; omega) fun h' tk as hk hlt hl hG => ?_
  have lak : as.length = ks.length := by omega
  have nd : as.Nodup := List.Pairwise.imp (fun h => Nat.ne_of_lt h) hG.rise
  have pr : ∀ (j : Nat) (b : Addr), as[j]? = some b → ∃ (e : DT.P2 × Addr) (kq : Addr), ks[j]? = some e ∧ H kq = some (.tup [.int e.1.1, .int e.1.2]) ∧ h'.get? b = some { cls := .type "tuple", data := .seq #[Value.ref kq, Value.ref e.2] } := by
    intro j b hj
    obtain ⟨en, he, hg⟩ := hG.pairs j b hj
    rw [entry_at hes j] at he
    cases hxj : xs'[j]? with
    | none =>
      rw [hxj] at he
      exact nomatch (show (none : Option DictEntry) = some en from he)
    | some x =>
      rw [hxj] at he
      have een : entryOfKey (tupleKind (mixKind X.prog X.w)) x = en := Option.some.inj he
      obtain ⟨e0, he0, r1, r2, r3⟩ := pget rel hxj
      rw [List.getElem?_map] at he0
      cases hkj : ks[j]? with
      | none =>
        rw [hkj] at he0
        exact nomatch (show (none : Option (List L2.Key × V)) = some e0 from he0)
      | some e =>
        rw [hkj] at he0
        have ee : entI (e.1, V.ref e.2) = e0 := Option.some.inj he0
        rw [← ee] at r2 r3
        have r3' : x.2.2 = Value.ref e.2 := r3
        refine ⟨e, x.2.1, rfl, r2, ?_⟩
        rw [hg, ← een, ← r3']
        all_goals rfl
  have hob : (h'.push { cls := .type "list", data := .seq (as.map Value.ref).toArray }).get? h'.objs.size = some (seqObj "list" (as.map Value.ref).toArray 0) := Heap.get?_push_size _ rfl
  have kb : ∀ b o, s.heap.get? b = some o → (h'.push { cls := .type "list", data := .seq (as.map Value.ref).toArray }).get? b = some o := fun b o e => Heap.get?_push_of_some _ (hk b o e)
  have ne0 : ∀ b o, h'.get? b = some o → b ≠ h'.objs.size := fun b o e => Nat.ne_of_lt (Heap.lt_size e)
  generalize hh2 : h'.push { cls := .type "list", data := .seq (as.map Value.ref).toArray } = h2 at hob kb ⊢
  have ka : ∀ b o, h'.get? b = some o → h2.get? b = some o := fun b o e => by rw [← hh2]; exact Heap.get?_push_of_some _ e
  have pin : ∀ (j : Nat) (b : Addr), as[j]? = some b → ∃ e : DT.P2 × Addr, ks[j]? = some e ∧ DT.PairV (TS.midHeap h2 h'.objs.size (as.map Value.ref)) (.ref b) e.1 (.ref (look ks e.1)) := by
    intro j b hj
    obtain ⟨e, kq, he, hkq, hg⟩ := pr j b hj
    obtain ⟨_, its, rv, ot, hot, hct, nt, hdt⟩ := (show ObjOk X.prog X.w H s.heap kq (.tup [.int e.1.1, .int e.1.2]) from I.hok kq _ hkq)
    obtain ⟨t, t', rfl⟩ : ∃ t t', its = [Value.int e.1.1 t, Value.int e.1.2 t'] := by
      cases rv with
      | cons r1 r2 =>
        cases r2 with
        | cons r2 r3 =>
          cases r3
          obtain ⟨t, rfl⟩ := r1
          obtain ⟨t', rfl⟩ := r2
          exact ⟨t, t', rfl⟩
    refine ⟨e, he, ?_⟩
    rw [look_at hnd e (List.mem_of_getElem? he)]
    exact ⟨b, kq, t, t', rfl, ⟨_, TS.midHeap_old (ne0 _ _ hg) (ka _ _ hg), rfl, 0, rfl⟩, ⟨ot, TS.midHeap_old (ne0 _ _ (hk _ _ hot)) (kb _ _ hot), hct, nt, hdt⟩⟩
  have tx : ∀ (j : Nat) (b : Addr) (e : DT.P2 × Addr), as[j]? = some b → ks[j]? = some e → DT.keyNs (TS.midHeap h2 h'.objs.size (as.map Value.ref)) (.ref b) = DT.nsP e.1 := by
    intro j b e hj he
    obtain ⟨e', he', hp'⟩ := pin j b hj
    have ee : e' = e := Option.some.inj (he'.symm.trans he)
    rw [← ee]
    exact hp'.ns
  have at_ : ∀ v ∈ as.map Value.ref, ∃ (j : Nat) (b : Addr) (e : DT.P2 × Addr), v = .ref b ∧ as[j]? = some b ∧ ks[j]? = some e := by
    intro v hv'
    obtain ⟨b, hb, rfl⟩ := List.mem_map.mp hv'
    obtain ⟨j, hj⟩ := List.mem_iff_getElem?.mp hb
    obtain ⟨e, _, he, _⟩ := pr j b hj
    exact ⟨j, b, e, rfl, hj, he⟩
  refine wpAny_call_entry PyProof.Rows.slot_list_sort ⟨_, hob, rfl⟩ PyProof.Rows.entry_list_sort
    (SK.plain_sort (s := { s with heap := h2, toks := tk }) (r := fun v => TS.code 64 (DT.keyNs (TS.midHeap h2 h'.objs.size (as.map Value.ref)) v)) hob (by rw [List.length_map]; omega) (fun h2' Qk hQk => ?_) fun ps out o1 o2 o3 => ⟨.none, rfl, ?_⟩) (PyProof.Rows.args_list_sort _)
  · refine DT.kind_tv (s := { s with heap := TS.midHeap h2 h'.objs.size (as.map Value.ref), toks := tk }) (M := fun y => .ref (look ks y)) h2' (by show X.A.units + 1 + 1 < cLine; omega) (fun v hv' => ?_) Qk hQk
    obtain ⟨j, b, e, rfl, hj, he⟩ := at_ v hv'
    obtain ⟨e', he', hp'⟩ := pin j b hj
    exact ⟨e'.1, hp', hbd e' (List.mem_of_getElem? he')⟩
  · show EP X pins σ Q (.ref h'.objs.size) { s with heap := sortedHeap h2 h'.objs.size (as.map Value.ref) out, toks := tk }
    obtain ⟨zs, pz, ez⟩ := perm_lift (fun z : Addr × DT.P2 × Addr => (Value.ref z.1, Value.ref z.1)) o2 (as.zip ks) (zip_self Value.ref as ks lak)
    have idx : ∀ z ∈ zs, ∃ j : Nat, as[j]? = some z.1 ∧ ks[j]? = some z.2 := by
      intro z' hz'
      obtain ⟨j, hj⟩ := List.mem_iff_getElem?.mp (pz.mem_iff.mp hz')
      exact ⟨j, List.getElem?_zip_eq_some.mp hj⟩
    have hout : out.toList = zs.map fun z => Value.ref z.1 := by
      rw [o1, ← ez, List.map_map]
      all_goals rfl
    have hperm : (zs.map (·.2)).Perm ks := by
      have e := pz.map (·.2)
      have m2 : (as.zip ks).map (·.2) = ks := List.map_snd_zip (by rw [lak]; exact Nat.le_refl _)
      rw [m2] at e
      exact e
    have hsort : (zs.map (·.2)).Pairwise (fun e f => TS.code 64 (DT.nsP e.1) ≤ TS.code 64 (DT.nsP f.1)) := by
      rw [← ez, List.pairwise_map] at o3
      rw [List.pairwise_map]
      refine List.Pairwise.imp_of_mem (fun {x y} hx hy h => ?_) o3
      obtain ⟨j, j1, j2⟩ := idx x hx
      obtain ⟨i, i1, i2⟩ := idx y hy
      have h' : TS.code 64 (DT.keyNs (TS.midHeap h2 h'.objs.size (as.map Value.ref)) (.ref x.1)) ≤ TS.code 64 (DT.keyNs (TS.midHeap h2 h'.objs.size (as.map Value.ref)) (.ref y.1)) := h
      rw [tx j _ _ j1 j2, tx i _ _ i1 i2] at h'
      exact h'
    have kF : ∀ b o, b ≠ h'.objs.size → h2.get? b = some o → (sortedHeap h2 h'.objs.size (as.map Value.ref) out).get? b = some o := fun b o hb e => (PyProof.Rows.sortedHeap_old hb (Heap.lt_size e)).trans e
    have kS : ∀ b o, s.heap.get? b = some o → (sortedHeap h2 h'.objs.size (as.map Value.ref) out).get? b = some o := fun b o e => kF b o (ne0 _ _ (hk b o e)) (kb b o e)
    obtain ⟨eF, heF⟩ := PyProof.Rows.sortedHeap_at (vs := as.map Value.ref) (out := out) hob
    have I1 : Inv X pins σ H { s with heap := sortedHeap h2 h'.objs.size (as.map Value.ref) out, toks := tk } := I.kept (t' := tk) kS
    have hn0 : H h'.objs.size = none := I.hok.fresh (Nat.le_of_lt hlt)
    have hlen : (zs.map fun z => V.ref z.1).length ≤ sizeLine := by
      have e := hperm.length_eq
      rw [List.length_map] at e
      rw [List.length_map, sizeLine_eq]
      omega
    have rv : Vals (zs.map fun z => V.ref z.1) out.toList := by
      rw [hout]
      exact vals_maps (fun z : Addr × DT.P2 × Addr => V.ref z.1) (fun z => Value.ref z.1) zs fun _ _ => rfl
    have I2 : Inv X pins σ (upd H h'.objs.size (.lst (zs.map fun z => V.ref z.1))) { s with heap := sortedHeap h2 h'.objs.size (as.map Value.ref) out, toks := tk } :=
      I1.take (h' := sortedHeap h2 h'.objs.size (as.map Value.ref) out) (t' := tk) (fun b ob _ e => e) (I.fpOk (Nat.le_of_lt hlt) hn0) ⟨hlen, out.toList, eF, rv, heF⟩
    obtain ⟨H2, I3, g, qt⟩ := takeT (P := fun b vs => ∃ (j : Nat) (e : DT.P2 × Addr) (kq : Addr), as[j]? = some b ∧ ks[j]? = some e ∧ vs = [.ref kq, .ref e.2] ∧ H kq = some (.tup [.int e.1.1, .int e.1.2])) I as _ I2 nd fun b hb => by
      obtain ⟨j, hj⟩ := List.mem_iff_getElem?.mp hb
      obtain ⟨e, kq, he, hkq, hg⟩ := pr j b hj
      have hbl : s.heap.objs.size ≤ b := Nat.le_of_lt (hG.above b hb)
      refine ⟨hbl, ?_, [.ref kq, .ref e.2], ⟨j, e, kq, hj, he, rfl, hkq⟩, fun H3 => ⟨(by rw [sizeLine_eq]; show 2 ≤ 16777216; omega), [Value.ref kq, Value.ref e.2], .cons rfl (.cons rfl .nil), ⟨_, kF _ _ (ne0 _ _ hg) (ka _ _ hg), rfl, 0, rfl⟩⟩⟩
      rw [upd_ne (ne0 _ _ hg)]
      exact I.hok.fresh hbl
    have gr : ∀ b o, H b = some o → H2 b = some o := fun b o e => g b o (by rw [upd_ne (ne_of_none e hn0)]; exact e)
    refine ⟨.ref h'.objs.size, H2, I3, rfl, q H2 h'.objs.size zs gr hn0 hperm hsort (g _ _ upd_same) fun z' hz' => ?_⟩
    obtain ⟨i, i1, i2⟩ := idx z' hz'
    obtain ⟨vs, ⟨j, e, kq, j1, j2, ev, hkq⟩, hH⟩ := qt z'.1 (List.mem_of_getElem? i1)
    have eij : i = j := (List.getElem?_inj (List.getElem?_eq_some_iff.mp i1).1 nd).mp (i1.trans j1.symm)
    subst eij
    have ee : e = z'.2 := Option.some.inj (j2.symm.trans i2)
    rw [ev, ee] at hH
    rw [ee] at hkq
    exact ⟨kq, hH, gr _ _ hkq⟩
end L2

set_option Elab.async false
set_option maxRecDepth 100000
set_option maxHeartbeats 4000000
/-! x in [..], x of a class with its own ==, no item equal to it -/
namespace PySem.W
open PySem PySem.Calls PyProof.Rows PyProof.V PySem.Spec
set_option linter.unusedVariables false
section
variable {prog : Program} {w : World} {A : Around} {E : Value → Shared → Prop} {s : Shared} {K : Frag} {x C L f : Addr} {h₀ : Heap} {m : Str → Option Value} {ox : Obj} {od : Option Obj}
theorem rc_back {T id : String} {y : Value} {Q : Value → Shared → Prop} (hu : A.units < cLine) (F : Fr h₀ L s.heap m) (X₀ : K.In h₀) (I : InstAt s.heap x ox C od) (hT : s.TypeIs y T) (hsub : subIn K (.ref C) (.type T) = some false) (slot : Slot T "__eq__" id)
    (hc : wpAny (model prog w) A (call (.builtin id) [y, .ref x]) (fun v s1 => v = .notImplemented ∧ s1 = s) E s)
    (hs : findIn K (.ref C) "__eq__" = some (some (.ref f))) (hf : isFn K (.ref f) = true)
    (h : wpAny (model prog w) A (call (.ref f) [.ref x, y]) (CmpBack Q) E s) : wpAny (model prog w) A (richCompare .Eq y (.ref x)) Q E s := by
  have X := X₀.keeps F.keep
  have one : wpAny (model prog w) A (tryCompare (.ref x) "__eq__" y) (fun r s' => ∃ v, r = some v ∧ Q v s') E s := by
    unfold tryCompare
    refine wpAny_bind (ifBound_K X I hs hf (wpAny_mono h (fun v s' hv => ?_) fun _ _ e => e))
    cases v <;> first | exact hv.elim | exact wpAny_pure ⟨_, rfl, hv⟩
  have hne : (Value.type T != Value.ref C) = true := by simp
  unfold richCompare
  simp only [hT.oneThing_none, cmpInfo]
  refine wpAny_holding (wpAny_bind (wpAny_cRoomFor hu ?_))
  refine wpAny_bind (wpAny_typeOf hT (wpAny_bind (I.type.here ?_)))
  simp only [hne, if_true]
  refine wpAny_bind ((looks_subIn X hsub).here ?_)
  simp only [Bool.false_eq_true, if_false, Bool.not_false, if_true]
  refine wpAny_bind (m := tryCompare y _ (.ref x)) (wpAny_tryCompare_declines hT slot (wpAny_mono hc (fun v s1 h1 => ⟨h1.1, ?_⟩) fun _ _ e => e))
  obtain ⟨_, rfl⟩ := h1
  refine wpAny_bind (wpAny_mono one (fun r s' z => ?_) fun _ _ e => e)
  obtain ⟨v, rfl, hq⟩ := z
  exact wpAny_pure hq
end
end PySem.W
namespace GQ
open PySem PySem.SeqAt
open AutoSeq1 (wpAny_loadPart')
open MeetsSeq MeetsSeq2 MeetsSeq3 SeqRoads2
set_option linter.unusedVariables false
section
variable {prog : Program} {w : World} {A : Around} {R : Result → Shared → Prop} {s : Shared}
theorem list_decl {l : Addr} {x : Value} (hi : PySem.W.Looks (model prog w) s.heap (isInstance x (.type "list")) false) (h : R (.ok (.ret .notImplemented)) s) :
    wpAny (model prog w) A.in1 (Builtin.«list.__eq__» ⟨[.ref l, x], []⟩) (FinOf prog w A R) (fun e s' => R (.error e) s') s := by
  have hi' := @PySem.W.Looks.here
  unfold Builtin.«list.__eq__»
  repeat (first
    | exact h
    | (refine wpAny_bind (m := isInstance x (.type "list")) (hi.here ?_))
    | wp_step)
theorem tuple_decl {l : Addr} {x : Value} (hi : PySem.W.Looks (model prog w) s.heap (isInstance x (.type "tuple")) false) (h : R (.ok (.ret .notImplemented)) s) :
    wpAny (model prog w) A.in1 (Builtin.«tuple.__eq__» ⟨[.ref l, x], []⟩) (FinOf prog w A R) (fun e s' => R (.error e) s') s := by
  unfold Builtin.«tuple.__eq__»
  repeat (first
    | exact h
    | (refine wpAny_bind (m := isInstance x (.type "tuple")) (hi.here ?_))
    | wp_step)
theorem dict_decl {l : Addr} {x : Value} (hT : s.TypeIs (.ref l) "dict") (hi : PySem.W.Looks (model prog w) s.heap (isInstance x (.type "dict")) false) (h : R (.ok (.ret .notImplemented)) s) :
    wpAny (model prog w) A.in1 (Builtin.«dict.__eq__» ⟨[.ref l, x], []⟩) (FinOf prog w A R) (fun e s' => R (.error e) s') s := by
  unfold Builtin.«dict.__eq__»
  repeat (first
    | exact h
    | (refine wpAny_bind (m := isInstance x (.type "dict")) (hi.here ?_))
    | wp_step)
theorem none_decl {x : Addr} (h : R (.ok (.ret .notImplemented)) s) :
    wpAny (model prog w) A.in1 (Builtin.«NoneType.__eq__» ⟨[.none, .ref x], []⟩) (FinOf prog w A R) (fun e s' => R (.error e) s') s := by
  unfold Builtin.«NoneType.__eq__»
  repeat (first
    | exact h
    | wp_step)
/-- no item equal: the loop ends with False -/
theorem contains_loopF (l : Addr) (x : Value) (N : Nat) (I : Shared → Prop)
    (hl : ∀ s, I s → ∃ (items : Array Value) (n : Nat), s.heap.get? l = some { cls := .type "list", data := .seq items n } ∧ items.size = N ∧ ∀ (i : Nat) (h1 : i < items.size), wpAny (model prog w) A.in1 (eqBool items[i] x) (fun r s' => r = false ∧ I s') (fun e s' => R (.error e) s') s)
    (fin : ∀ s, I s → R (.ok (.ret (.bool false))) s) (k : Nat) :
    ∀ i : Nat, N - i = k → i ≤ N → ∀ s, I s → wpAny (model prog w) A.in1 (Builtin.«list.__contains__.loop» ⟨[.ref l, x, rawInt i], []⟩) (FinOf prog w A R) (fun e s' => R (.error e) s') s := by
  induction k with
  | zero =>
    intro i hk hi s h
    obtain ⟨items, n, hl1, hs1, _⟩ := hl _ h
    have hR : R (.ok (.ret (.bool false))) s := fin s h
    obtain ⟨hp, g, d, tk, os⟩ := s
    wp_walk using wpAny_loadPart' hl1
    have hi1 : items[((i : Nat) : Int).toNat]? = none := by simp; omega
    rw [hi1]
    wp_walk using wpAny_loadPart' hl1
    exact hR
  | succ k ih =>
    intro i hk hi s h
    obtain ⟨items, n, hl1, hs1, turn⟩ := hl _ h
    have hlt : i < items.size := by omega
    have ht := turn i hlt
    obtain ⟨hp, g, d, tk, os⟩ := s
    wp_walk using wpAny_loadPart' hl1
    have hi1 : items[((i : Nat) : Int).toNat]? = some items[i] := by simp [hlt]
    have hc : ((i : Int) + 1) = ((i + 1 : Nat) : Int) := by omega
    rw [hi1]
    refine wpAny_bind (wpAny_mono ht (fun r s2 h2 => ?_) fun _ _ x => x)
    obtain ⟨hr, h2⟩ := h2
    subst hr
    have hrec := ih (i + 1) (by omega) (by omega) s2 h2
    obtain ⟨hp2, g2, d2, tk2, os2⟩ := s2
    wp_walk
    rw [hc]
    exact ⟨plainId_quiet plain_contains_loop _, codeAny_builtin entry_contains_loop (by
      rw [Around.under_plainId plain_contains_loop _]
      exact hrec)⟩
theorem list_containsF (l : Addr) (x : Value) (N : Nat) (I : Shared → Prop)
    (hl : ∀ s, I s → ∃ (items : Array Value) (n : Nat), s.heap.get? l = some { cls := .type "list", data := .seq items n } ∧ items.size = N ∧ ∀ (i : Nat) (h1 : i < items.size), wpAny (model prog w) A.in1 (eqBool items[i] x) (fun r s' => r = false ∧ I s') (fun e s' => R (.error e) s') s)
    (fin : ∀ s, I s → R (.ok (.ret (.bool false))) s) (h : I s) :
    wpAny (model prog w) A.in1 (Builtin.«list.__contains__» ⟨[.ref l, x], []⟩) (FinOf prog w A R) (fun e s' => R (.error e) s') s := by
  obtain ⟨items, n, hl1, hs1, _⟩ := hl _ h
  have hrec := contains_loopF (A := A) (R := R) l x N I hl fin _ 0 rfl (Nat.zero_le _) s h
  obtain ⟨hp, g, d, tk, os⟩ := s
  wp_walk using wpAny_loadPart' hl1
  exact ⟨plainId_quiet plain_contains_loop _, codeAny_builtin entry_contains_loop (by
    rw [Around.under_plainId plain_contains_loop _]
    exact hrec)⟩
end
end GQ

set_option Elab.async false
set_option maxRecDepth 100000
set_option maxHeartbeats 4000000
namespace L2
open PySem PySem.Spec PyProof.Rows
set_option linter.unusedVariables false
/-- None, a list, a tuple or a dict with tuple keys -/
def NoTk (H : Hp) (v : V) : Prop := v = .non ∨ ∃ a, v = .ref a ∧ ((∃ xs, H a = some (.lst xs)) ∨ (∃ xs, H a = some (.tup xs)) ∨ ∃ kvs, H a = some (.dT kvs))
/-- the own class lies below none of the four -/
structure Beside (K : PySem.W.Frag) (C : Addr) : Prop where
  n : PySem.W.subIn K (.ref C) (.type "NoneType") = some false
  l : PySem.W.subIn K (.ref C) (.type "list") = some false
  t : PySem.W.subIn K (.ref C) (.type "tuple") = some false
  d : PySem.W.subIn K (.ref C) (.type "dict") = some false
def rInOwn (C : Addr) (sp : Sp) (E : XK) : R2 := fun x y H Q => ∃ a dx fs l ys, x = .ref a ∧ y = .ref l ∧ H a = some (.ins C dx fs) ∧ H l = some (.lst ys) ∧ (∀ v ∈ ys, NoTk H v ∧ sp [.ref a, v] H (fun r H' => r = .bl false ∧ H' = H) E) ∧ Q (.bl false) H
section
variable {X : Cx} {CX : CXT} {n : Nat} {f C : Addr} {fd : FuncData} {ps : List Str} {sp : Sp} {E : XK}
theorem eqBool_back {prog : Program} {w : World} {A : Around} {E : Value → Shared → Prop} {s : Shared} {y : Value} {x : Addr} {Q : Bool → Shared → Prop} (hy : y = .none ∨ ∃ b, y = .ref b ∧ b ≠ x)
    (h : wpAny (model prog w) A (richCompare .Eq y (.ref x)) (fun v s' => ∃ r, v = .bool r ∧ Q r s') E s) : wpAny (model prog w) A (eqBool y (.ref x)) Q E s := by
  rcases hy with rfl | ⟨b, rfl, hne⟩
  · unfold eqBool
    refine wpAny_holding ?_
    refine wpAny_ite_split (fun hab => absurd (eq_of_beq hab) (fun z => nomatch z)) (fun _ => ?_)
    refine wpAny_bind (wpAny_mono h (fun v s' hv => ?_) fun _ _ x => x)
    obtain ⟨r, rfl, q⟩ := hv
    exact wpAny_truthy_bool q
  · exact GQ.eqBool_refG hne h
theorem op_inOwn (G : FnOk X.prog X.w X.K X.mg X.base CX n f fd ps sp) (hs : PySem.W.findIn X.K (.ref C) "__eq__" = some (some (.ref f))) (hf : PySem.W.isFn X.K (.ref f) = true) (hb : Binds X.K fd ps []) (hB : Beside X.K C) (hr : Room (n + 1) X.A) (hx : Passes CX X E) : OpR X (compareOp .In) (rInOwn C sp E) := by
  intro pins s σ H x y v u Q I rx ry h
  obtain ⟨a, dx, fs, l, ys, rfl, rfl, ha, hl, hall, q⟩ := h
  cases (show v = Value.ref a from rx)
  cases (show u = Value.ref l from ry)
  have hu1 : X.A.in1.units < cLine := hr.in1.units0
  show wpAny (model X.prog X.w) X.A (do return .bool (← contains (.ref l) (.ref a))) (EP X pins σ Q) X.xe s
  obtain ⟨z0, its0, k0, r0, e0⟩ := I.hok l _ hl
  refine wpAny_bind (wpAny_contains_slot (T := "list") ⟨_, e0, rfl⟩ F.slot_list_contains (wpAny_mono (Q := fun v s' => v = .bool false ∧ Inv X pins σ H s') (GQ.call_here F.slot_list_contains ⟨_, e0, rfl⟩ F.entry_list_contains (F.args_list_contains_2 _ _) ?_) (fun v s' hv => ?_) fun _ _ e => e))
  case refine_2 =>
    obtain ⟨rfl, I'⟩ := hv
    exact wpAny_truthy_bool (wpAny_pure ⟨.bl false, H, I', rfl, q⟩)
  refine GQ.list_containsF l (.ref a) ys.length (fun s' => Inv X pins σ H s') (fun s' I' => ?_) (fun s' I' => ⟨rfl, I'⟩) I
  obtain ⟨z, its, k, r, e⟩ := I'.hok l _ hl
  refine ⟨its.toArray, k, e, by rw [List.size_toArray, ← r.length], fun i h1 => ?_⟩
  have h1' : i < its.length := by simpa using h1
  have k1 : i < ys.length := by rw [r.length]; exact h1'
  obtain ⟨u, hu, ru⟩ := r.get (List.getElem?_eq_getElem k1)
  have eu : its.toArray[i] = u := by
    have g1 : its[i]? = some its.toArray[i] := by
      rw [List.getElem?_eq_getElem h1'] <;> simp
    exact Option.some.inj (g1.symm.trans hu)
  rw [eu]
  obtain ⟨hn, hsp⟩ := hall _ (List.getElem_mem k1)
  generalize ys[i] = y at hn hsp ru
  obtain ⟨mA, J, _⟩ := ins_get I'.hok ha
  obtain ⟨od, J, _⟩ := J.look
  obtain ⟨m, hF⟩ := I'.fr
  have XK := I'.ok.mod.kin.keeps hF.keep
  -- the own ==
  have own : wpAny (model X.prog X.w) X.A.in1 (call (.ref f) [.ref a, u]) (PySem.W.CmpBack fun v s' => ∃ r, v = .bool r ∧ (r = false ∧ Inv X pins σ H s')) X.xe s' := by
    have hl := G.len _ _ _ _ hsp
    have r2 : Vals [V.ref a, y] [Value.ref a, u] := .cons rfl (.cons ru .nil)
    have e0 : Env0 X.prog X.w X.K X.mg X.base X.A.in1 X.stack s' H := I'.env0.in1
    refine wpAny_call (codeAny_mono (G.run X.A.in1 X.stack s' H ⟨[.ref a, u], []⟩ [.ref a, u] [.ref a, y] _ E hr.in1 e0 (by
      have := hb s' [.ref a, u] I'.kIn (by simpa using hl)
      simpa using this) r2 hsp) fun r s2 hq => ?_)
    cases r with
    | error e => exact hx pins σ H s' e s2 I' hq
    | ok fl =>
      cases fl with
      | ret w =>
        obtain ⟨z, H', I2, rz, ez, eh⟩ := I'.after hq
        subst ez
        subst eh
        cases rz
        exact ⟨false, rfl, rfl, I2⟩
      | next => exact False.elim hq
      | brk => exact False.elim hq
      | cont => exact False.elim hq
  rcases hn with rfl | ⟨b, rfl, ⟨xs, hb'⟩ | ⟨xs, hb'⟩ | ⟨kvs, hb'⟩⟩
  · cases ru
    exact eqBool_back (.inl rfl) (PySem.W.rc_back (T := "NoneType") hu1 hF I'.ok.mod.kin J rfl hB.n F.slot_NoneType_eq (GQ.call_here F.slot_NoneType_eq rfl F.entry_NoneType_eq (F.args_NoneType_eq_2 _ _) (GQ.none_decl ⟨rfl, rfl⟩)) hs hf own)
  all_goals
    cases ru
    have nba : Value.ref b = .none ∨ ∃ b', Value.ref b = .ref b' ∧ b' ≠ a := .inr ⟨b, rfl, ne_of hb' ha (fun z => by cases z)⟩
  · obtain ⟨_, its2, k2, _, e2⟩ := I'.hok b _ hb'
    exact eqBool_back nba (PySem.W.rc_back (T := "list") hu1 hF I'.ok.mod.kin J ⟨_, e2, rfl⟩ hB.l F.slot_list_eq (GQ.call_here F.slot_list_eq ⟨_, e2, rfl⟩ F.entry_list_eq (F.args_list_eq_2 _ _) (GQ.list_decl (J.type.andThen (PySem.W.looks_subIn XK hB.l)) ⟨rfl, rfl⟩)) hs hf own)
  · obtain ⟨_, _, _, o, e2, c2, _⟩ := (show ObjOk X.prog X.w H s'.heap b (.tup xs) from I'.hok b _ hb')
    exact eqBool_back nba (PySem.W.rc_back (T := "tuple") hu1 hF I'.ok.mod.kin J ⟨_, e2, c2⟩ hB.t F.slot_tuple_eq (GQ.call_here F.slot_tuple_eq ⟨_, e2, c2⟩ F.entry_tuple_eq (F.args_tuple_eq_2 _ _) (GQ.tuple_decl (J.type.andThen (PySem.W.looks_subIn XK hB.t)) ⟨rfl, rfl⟩)) hs hf own)
  · obtain ⟨_, _, _, _, o, es, ep, e2, c2, _⟩ := (show ObjOk X.prog X.w H s'.heap b (.dT kvs) from I'.hok b _ hb')
    exact eqBool_back nba (PySem.W.rc_back (T := "dict") hu1 hF I'.ok.mod.kin J ⟨_, e2, c2.1⟩ hB.d F.slot_dict_eq (GQ.call_here F.slot_dict_eq ⟨_, e2, c2.1⟩ F.entry_dict_eq (F.args_dict_eq_2 _ _) (GQ.dict_decl ⟨_, e2, c2.1⟩ (J.type.andThen (PySem.W.looks_subIn XK hB.d)) ⟨rfl, rfl⟩)) hs hf own)
end
end L2

set_option Elab.async false
set_option maxRecDepth 100000
set_option maxHeartbeats 4000000
namespace L2
open PySem PySem.Spec PyProof.Rows
set_option linter.unusedVariables false
/-! comprehensions with several clauses: a core for the first, one for each behind it -/
section
variable {prog : Program} {w : World} {A : Around} {R : Result → Shared → Prop} {s : Shared}
/-- such a node's loops and starts run where they stand -/
structure Runs (prog : Program) (w : World) (A : Around) (node : Expr) : Prop where
  lu : ∀ k it acc env, A.under (.compLoop node k it acc env) = A
  ld : ∀ k it acc env, (model prog w).den (.compLoop node k it acc env) = (compTurn node k it acc env).onRaise (fun x => do noteFrame x env; theTreesLotGoes x)
  su : ∀ k it acc env, A.under (.compStart node k it acc env) = A
  sd : ∀ k it acc env, (model prog w).den (.compStart node k it acc env) = (compStart node k it acc env).onRaise (fun x => do noteFrame x env; standAt theWindowsPlace)
theorem runs_list {elt : Expr} {cs : List Comprehension} {scope : Scope} {pos : Pos} : Runs prog w A (.ListComp elt cs scope pos) := ⟨fun _ _ _ _ => rfl, fun _ _ _ _ => rfl, fun _ _ _ _ => rfl, fun _ _ _ _ => rfl⟩
theorem runs_dict {kx vx : Expr} {cs : List Comprehension} {scope : Scope} {pos : Pos} : Runs prog w A (.DictComp kx vx cs scope pos) := ⟨fun _ _ _ _ => rfl, fun _ _ _ _ => rfl, fun _ _ _ _ => rfl, fun _ _ _ _ => rfl⟩
/-- how a clause goes over to the next -/
abbrev BodyTo (prog : Program) (w : World) (A : Around) (env : Env) (node i1 : Expr) (k1 : Nat) (acc : Value) (R : Result → Shared → Prop) : (Shared → Prop) → Shared → Prop := fun back s =>
  wpAny (model prog w) A (eval i1 env) (fun x s4 => wpAny (model prog w) A (pyIter x) (fun it1 s5 => codeAny (model prog w) A (.compStart node k1 it1 acc env) (fun r s' => match r with
    | .ok _ => back s'
    | .error _ => False) s5) (notedBy (model prog w) A env fun e s' => R (.error e) s') s4) (notedBy (model prog w) A env fun e s' => R (.error e) s') s
/-- what a turn of such a clause is -/
abbrev OutEq (node : Expr) (k : Nat) (t0 i0 : Expr) (ifs0 : List Expr) (i1 : Expr) : Prop := ∀ (it acc : Value) (env : Env), compTurn node k it acc env = (do
      standAt i0.pos
      match ← pyNext it with
      | none => pure (.done .next)
      | some v =>
        letOwnedTupleGo t0 it v
        assign t0 env v
        let mut ok := true
        for c in ifs0 do
          if ok then ok ← isTrue c env (eval c env)
        if ok then
          let x ← eval i1 env
          standAt i1.pos
          let x ← foldedSetIterable i1 env x
          let _ ← runOwn (.compStart node (k + 1) (← holding [x] (pyIter x)) acc env) env
        again (.compLoop node k it acc env))
theorem loop_out {node t0 i0 i1 : Expr} {k : Nat} {ifs0 : List Expr} (hr : Runs prog w A node) (eq : OutEq node k t0 i0 ifs0 i1) {it acc : Value} {env : Env} (hs : ∀ x, foldedSetIterable i1 env x = pure x) (I : Nat → Shared → Prop)
    (turn : ∀ n s, I n s → TurnIs prog w A t0 i0 ifs0 it env R (BodyTo prog w A env node i1 (k + 1) acc R) (fun s' => ∃ m, m < n ∧ I m s') s) (n : Nat) (s : Shared) (h : I n s) :
    codeAny (model prog w) A (.compLoop node k it acc env) R s := by
  refine codeAny_loop rfl I (fun n s hI => ?_) n h
  rw [hr.lu, hr.ld]
  refine wpAny_noted ?_
  rw [eq]
  refine wpAny_bind (wpAny_standAt (wpAny_bind (wpAny_mono (turn n s hI) (fun r s₁ h₁ => ?_) fun _ _ h' => h')))
  cases r with
  | none => exact wpAny_pure h₁
  | some v =>
    refine wpAny_bind (wpAny_mono h₁ (fun _ s₁' h₁' => ?_) fun _ _ h' => h')
    refine wpAny_bind (wpAny_mono h₁' (fun _ s₂ h₂ => wpAny_bind (wpAny_mono h₂ (fun ok s₃ h₃ => ?_) fun _ _ h' => h')) fun _ _ h' => h')
    cases ok with
    | false => exact wpAny_pure ⟨rfl, h₃⟩
    | true =>
      refine wpAny_bind (wpAny_mono h₃ (fun x s₄ h₄ => ?_) fun _ _ h' => h')
      refine wpAny_bind (wpAny_standAt (wpAny_bind (wpAny_of_eq (hs x) (wpAny_bind (wpAny_holding (wpAny_mono h₄ (fun it1 s₅ h₅ => ?_) fun _ _ h' => h'))))))
      refine wpAny_bind (wpAny_runOwn ?_)
      rw [Around.mark_none]
      refine codeAny_mono h₅ fun r s' hr => ?_
      cases r with
      | ok f =>
        first
          | exact wpAny_pure ⟨rfl, hr⟩
          | exact wpAny_bind (wpAny_pure (wpAny_pure ⟨rfl, hr⟩))
      | error e => exact hr.elim
/-- the last clause's turn, what it does with its element being elt -/
abbrev InEq (node : Expr) (k : Nat) (t0 i0 : Expr) (ifs0 : List Expr) (acc : Value) (env : Env) (elt : Sem Unit) : Prop := ∀ (it : Value), compTurn node k it acc env = (do
      standAt i0.pos
      match ← pyNext it with
      | none => pure (.done .next)
      | some v =>
        letOwnedTupleGo t0 it v
        assign t0 env v
        let mut ok := true
        for c in ifs0 do
          if ok then ok ← isTrue c env (eval c env)
        if ok then elt
        again (.compLoop node k it acc env))
theorem loop_in {node t0 i0 : Expr} {k : Nat} {ifs0 : List Expr} {it acc : Value} {env : Env} {elt : Sem Unit} (hr : Runs prog w A node) (eq : InEq node k t0 i0 ifs0 acc env elt) (I : Nat → Shared → Prop)
    (turn : ∀ n s, I n s → TurnIs prog w A t0 i0 ifs0 it env R (fun back s => wpAny (model prog w) A elt (fun _ s' => back s') (notedBy (model prog w) A env fun e s' => R (.error e) s') s) (fun s' => ∃ m, m < n ∧ I m s') s) (n : Nat) (s : Shared) (h : I n s) :
    codeAny (model prog w) A (.compLoop node k it acc env) R s := by
  refine codeAny_loop rfl I (fun n s hI => ?_) n h
  rw [hr.lu, hr.ld]
  refine wpAny_noted ?_
  rw [eq]
  refine wpAny_bind (wpAny_standAt (wpAny_bind (wpAny_mono (turn n s hI) (fun r s₁ h₁ => ?_) fun _ _ h' => h')))
  cases r with
  | none => exact wpAny_pure h₁
  | some v =>
    refine wpAny_bind (wpAny_mono h₁ (fun _ s₁' h₁' => ?_) fun _ _ h' => h')
    refine wpAny_bind (wpAny_mono h₁' (fun _ s₂ h₂ => wpAny_bind (wpAny_mono h₂ (fun ok s₃ h₃ => ?_) fun _ _ h' => h')) fun _ _ h' => h')
    cases ok with
    | false => exact wpAny_pure ⟨rfl, h₃⟩
    | true => exact wpAny_bind (wpAny_mono h₃ (fun _ s₄ h₄ => wpAny_pure ⟨rfl, h₄⟩) fun _ _ h' => h')
/-- a clause's start behind the first -/
theorem start_ok {node i1 : Expr} {k : Nat} {it acc : Value} {env : Env} (hr : Runs prog w A node) (hpos : ∃ t ifs, (clausesOf node)[k]? = some ⟨t, i1, ifs, 0⟩)
    (h0 : codeAny (model prog w) A (.compLoop node k it acc env) R s)
    (h : wpAny (model prog w) A (pyIter it) (fun it' s' => codeAny (model prog w) A (.compLoop node k it' acc env) R s') (notedBy (model prog w) A env fun x s' => R (.error x) s') s) :
    codeAny (model prog w) A (.compStart node k it acc env) R s := by
  obtain ⟨t, ifs, hc⟩ := hpos
  refine codeAny_of_tree ?_
  rw [hr.su, hr.sd]
  refine wpAny_notedAt ?_
  unfold compStart
  simp only [hc]
  refine wpAny_bind (wpAny_askSetting (wpAny_ite ?_))
  split
  · first
      | exact wpAny_bind (wpAny_pure (wpAny_pure (And.intro rfl h0)))
      | exact wpAny_pure (And.intro rfl h0)
  · first
      | exact wpAny_bind (wpAny_rule (wpAny_bind (wpAny_standAt (wpAny_bind (wpAny_mono h (fun it' s' h' => wpAny_pure (And.intro rfl h')) fun _ _ x => x)))))
      | (refine wpAny_bind (wpAny_rule ?_); show wpAny _ _ (standAt i1.pos >>= _) _ _ s; exact wpAny_bind (wpAny_standAt (wpAny_bind (wpAny_mono h (fun it' s' h' => wpAny_pure (And.intro rfl h')) fun _ _ x => x))))
end
end L2

set_option Elab.async false
set_option maxRecDepth 100000
set_option maxHeartbeats 4000000
namespace L2
open PySem PySem.Spec PyProof.Rows
set_option linter.unusedVariables false
/-- σ' knows what σ knows -/
def Knows (σ σ' : L2.St) : Prop := σ.length = σ'.length ∧ ∀ (j : Nat) v, σ[j]? = some (some v) → σ'[j]? = some (some v)
/-- what a clause behind the first does: its source's own loop, from whose end Nx is reached; vs1: the names of this target and of those behind it -/
def tIn (wi1 : TI) (g1 : TG) (tt1 : TT) (add1 : Addr → L2.St → Hp → (Hp → Prop) → Prop) (vs1 : List Nat) : Addr → L2.St → Hp → (Hp → Prop) → Prop := fun D σ2 H3 Nx => wi1 σ2 H3 fun J1 H4 => ∃ W1 : Nat → Nat → Hp → Prop, (∃ m, W1 0 m H4) ∧ ∀ j k H, W1 j k H →
  (J1.stop j H ∧ Nx H) ∨ (J1.go j H ∧ ∃ Nx1 : Hp → Prop, (∀ H', Nx1 H' → ∃ k', k' < k ∧ W1 (j + 1) k' H') ∧ ∀ x H', J1.yld j H x H' → g1 x (wipe σ2 vs1) H' fun σ3 H5 => wipe σ3 vs1 = wipe σ2 vs1 ∧ tt1 σ3 H5 fun b H6 => if b = true then add1 D σ3 H6 Nx1 else Nx1 H6)
section
variable {X : Cx}
variable {pins : List (Addr × Obj)} {s : Shared} {σ : L2.St} {H : Hp} {Q : VK} {node tg iter : Expr} {ifs : List Expr} {scope : Scope} {own : List (PySem.Str × Nat)} {pos' : Pos} {wi : TI} {g : TG} {tt : TT}
  {add : Addr → L2.St → Hp → (Hp → Prop) → Prop} {o0 : Addr → HO} {ob : Obj} {mk : Sem Value} {use : Option (Value → Sem Unit)} {Qf : Value → Shared → Prop} {Body : Value → Env → (Result → Shared → Prop) → (Shared → Prop) → Shared → Prop}
theorem gatherN {rest : List Comprehension} {vsI : List Nat} (hvI : ∀ i ∈ vsI, i ∈ own.map (·.2)) (hc : X.calm = true) (hN : X.N.Nodup) (I : Inv X pins σ H s) (hi : PI X tg iter wi) (ok : BlkOk X.N X.env.scope scope own) (hcl : clausesOf node = ⟨tg, iter, ifs, 0⟩ :: rest)
    (hmk : ∀ (A : Around) (E : Value → Shared → Prop) (s : Shared) (Q : Value → Shared → Prop), Q (.ref s.heap.objs.size) { s with heap := s.heap.push ob } → wpAny (model X.prog X.w) A mk Q E s)
    (hob : ∀ (h : Heap) (H : Hp), sysModules < h.objs.size → ObjOk X.prog X.w H (h.push ob) h.objs.size (o0 h.objs.size))
    (hloop : ∀ (it : Value) (D : Addr) (env : Env) (R : Result → Shared → Prop) (I : Nat → Shared → Prop), (∀ n s, I n s → TurnIs X.prog X.w X.A tg iter ifs it env R (Body (.ref D) env R) (fun s' => ∃ m, m < n ∧ I m s') s) →
      ∀ n s, I n s → codeAny (model X.prog X.w) X.A (.compLoop node 0 it (.ref D) env) R s)
    (hstart : ∀ (it acc : Value) (env : Env) (R : Result → Shared → Prop) (s : Shared), codeAny (model X.prog X.w) X.A (.compLoop node 0 it acc env) R s →
      wpAny (model X.prog X.w) X.A (pyIter it) (fun it' s' => codeAny (model X.prog X.w) X.A (.compLoop node 0 it' acc env) R s') (notedBy (model X.prog X.w) X.A env fun x s' => R (.error x) s') s →
      codeAny (model X.prog X.w) X.A (.compStart node 0 it acc env) R s)
    (hg : ∀ (s : Shared) (H : Hp) (C : Addr) (cl : List (PySem.Str × Addr)) (fp : List Addr), PG (X.blk s H scope (compEnvC scope cl C X.env) fp) tg g)
    (ht : ∀ (s : Shared) (H : Hp) (C : Addr) (cl : List (PySem.Str × Addr)) (fp : List Addr), PTs (X.blk s H scope (compEnvC scope cl C X.env) fp) ifs tt)
    (hadd : ∀ (s : Shared) (H : Hp) (C : Addr) (cl : List (PySem.Str × Addr)) (fp : List Addr) (D : Addr) (R : Result → Shared → Prop) (Nx : Hp → Prop) (back : Shared → Prop) (pins' : List (Addr × Obj)) (σ2 : L2.St) (H3 : Hp) (s3 : Shared),
      Inv (X.blk s H scope (compEnvC scope cl C X.env) fp) pins' σ2 H3 s3 → add D σ2 H3 Nx → (∀ s' σ' H', Inv (X.blk s H scope (compEnvC scope cl C X.env) fp) pins' σ' H' s' → Knows (wipe σ2 vsI) σ' → Nx H' → back s') → Body (.ref D) (compEnvC scope cl C X.env) R back s3)
    (hs : ∀ x, foldedSetIterable iter X.env x = pure x) (h : tGather o0 wi g tt add (own.map (·.2)) σ H Q)
    (hRR : ∀ D C s' m H', Inv X pins σ H' s' → Q (.ref D) H' → s'.heap.Ns C m → FpOk X pins H' C → compPost (model X.prog X.w) X.A X.xe use Qf (.ref D) C (.ok .next) s') :
    wpAny (model X.prog X.w) X.A (comprehension node scope X.env pos' mk false (eval iter X.env) use) Qf X.xe s := by
  have free : ∀ y ∈ scope.names, y.2 = .free → ∃ c, X.env.cells.lookup y.1 = some c := fun y hy e => (ok.free y hy e).elim (fun k => I.ok.has _ (.inl k)) (fun k => I.ok.has _ (.inr k))
  refine wpAny_comprehension_free (use := use) hcl hs (closure_ok free) ok.kind (fun y hy e => by rw [ok.uniq y hy, e]) (thn (hi.run pins s σ H _ I h) fun xv s1 hx => thn hx fun itv s2 h2 => ?_)
  obtain ⟨it, fp, tn, J, H2, e, I2, T, st2, f2, q⟩ := h2
  subst e
  refine hmk _ _ _ _ (newEnv_comp ?_)
  obtain ⟨W, ⟨m0, w0⟩, turn⟩ := q s2.heap.objs.size (I2.hok.fresh (Nat.le_refl _))
  have I3 : Inv X pins σ (upd H2 s2.heap.objs.size (o0 s2.heap.objs.size)) ({ s2 with heap := s2.heap.push ob } : Shared) :=
    I2.laid (t' := s2.toks) (fun b o e => Heap.get?_push_of_some _ e) (Nat.le_refl _) (hob _ _ I2.big)
  have f3 : ∀ b ∈ fp, FpOk X pins (upd H2 s2.heap.objs.size (o0 s2.heap.objs.size)) b ∧ b < (s2.heap.push ob).objs.size := fun b hb => by
    obtain ⟨o, e, _⟩ := T.obj _ _ st2 b hb
    have lt := Heap.lt_size e
    exact ⟨⟨by rw [upd_ne (Nat.ne_of_lt lt)]; exact (f2 b hb).1, (f2 b hb).2⟩, by rw [Heap.size_push]; exact Nat.lt_succ_of_lt lt⟩
  have st3 : tn 0 (s2.heap.push ob) := T.keep _ _ _ st2 fun b _ o e => Heap.get?_push_of_some _ e
  generalize hD : s2.heap.objs.size = D at I3 w0 turn f3 ⊢
  generalize hs3 : ({ s2 with heap := s2.heap.push ob } : Shared) = s3 at I3 ⊢
  have h3 : s3.heap = s2.heap.push ob := by rw [← hs3]
  rw [← h3] at f3 st3
  generalize upd H2 D (o0 D) = H3 at I3 w0 f3
  have I4 := block_start I3 ok hN f3
  have pg := hg s3 H3 s3.heap.objs.size (cellsFrom (s3.heap.objs.size + 1) scope.names (cloFrom X.env.cells scope.names [])) fp
  have pt := ht s3 H3 s3.heap.objs.size (cellsFrom (s3.heap.objs.size + 1) scope.names (cloFrom X.env.cells scope.names [])) fp
  have pa := hadd s3 H3 s3.heap.objs.size (cellsFrom (s3.heap.objs.size + 1) scope.names (cloFrom X.env.cells scope.names [])) fp
  show codeAny _ _ (.compStart node 0 (.ref it) (.ref D) (compEnvC scope (cellsFrom (s3.heap.objs.size + 1) scope.names (cloFrom X.env.cells scope.names [])) s3.heap.objs.size X.env)) (compPost (model X.prog X.w) X.A X.xe use Qf (.ref D) s3.heap.objs.size) { s3 with heap := pushCells (s3.heap.push { cls := .type "dict", data := .dict #[] }) scope.names }
  generalize hce : compEnvC scope (cellsFrom (s3.heap.objs.size + 1) scope.names (cloFrom X.env.cells scope.names [])) s3.heap.objs.size X.env = ce at I4 pg pt pa ⊢
  have cL : ce.locals = s3.heap.objs.size := by subst hce; rfl
  generalize hs4 : ({ s3 with heap := pushCells (s3.heap.push { cls := .type "dict", data := .dict #[] }) scope.names } : Shared) = s4 at I4 ⊢
  have st4 : tn 0 s4.heap := T.keep _ _ _ st3 fun b _ o e => by rw [← hs4]; exact pushCells_keeps _ _ _ _ (Heap.get?_push_of_some _ e)
  have still : ∀ {σ' : L2.St} {H' : Hp} {s' : Shared}, Inv (X.blk s3 H3 scope ce fp) [] σ' H' s' → (∀ b ∈ fp, H' b = none) → ∀ b ∈ fp, FpOk (X.blk s3 H3 scope ce fp) [] H' b := fun I' hn b hb =>
    ⟨hn b hb, (I'.ok.exf b hb).1, I'.ok.exfs b hb, .inl hb, fun x c e => (I'.ok.exf b hb).2 x c e, fun p hp => absurd (show p ∈ ([] : List (Addr × Obj)) ++ [] from hp) (by simp)⟩
  have loop := hloop (.ref it) D ce (compPost (model X.prog X.w) X.A X.xe use Qf (.ref D) s3.heap.objs.size)
    (fun n s' => ∃ i H', Inv (X.blk s3 H3 scope ce fp) [] (wipe σ (own.map (·.2))) H' s' ∧ tn i s'.heap ∧ (∀ b ∈ fp, H' b = none) ∧ W i n H') ?_ m0 s4 ⟨0, H3, I4, st4, fun b hb => (f3 b hb).1.1, w0⟩
  · exact hstart _ _ _ _ _ loop (T.self X.A 0 _ _ _ st4 loop)
  rintro n s5 ⟨i, H5, I5, st5, n5, w5⟩
  rcases turn i n H5 w5 with ⟨stop, qq⟩ | ⟨go, Nx, hNx, step⟩
  · refine thnF (T.done (X.blk s3 H3 scope ce fp) rfl rfl rfl hc i [] s5 _ H5 (fun _ _ => False) I5 (still I5 n5) st5 stop) fun r s6 ⟨hr, I6⟩ => ?_
    subst hr
    have I7 : Inv X pins σ H5 s6 := I3.call' (ch := fp) I6.os I6.base I6.hok I6.bare fun b hb => ⟨(f3 b hb).1.2.2.2.1, (f3 b hb).1.2.1, (f3 b hb).1.2.2.2.2.1, (f3 b hb).1.2.2.2.2.2⟩
    have nC : H5 s3.heap.objs.size = none := by
      have z : H5 ce.locals = none := I6.free
      rwa [cL] at z
    obtain ⟨m, hn, _⟩ := I6.loc
    have hn : s6.heap.Ns ce.locals m := hn
    rw [cL] at hn
    exact hRR D s3.heap.objs.size s6 m H5 I7 qq hn (I3.fpOk (Nat.le_refl _) nC)
  · refine thnF (T.item (X.blk s3 H3 scope ce fp) rfl rfl rfl hc i [] s5 _ H5 (fun _ _ => False) I5 (still I5 n5) st5 go) fun r s6 ⟨u, hr, h6⟩ => ?_
    subst hr
    refine thnF h6 fun _ s7 ⟨x, H7, I7, r7, y7, st7, n7⟩ => ?_
    refine thnF (pg.run _ s7 _ H7 x u _ (I7.pinned (still I7 n7) (T.obj _ _ st7)) r7 (step x H7 y7)) fun _ s8 ⟨σ8, H8, I8, hw8, q8⟩ => ?_
    refine thnF (pt.run _ s8 σ8 H8 _ I8 q8) fun b s9 ⟨H9, I9, q9⟩ => ?_
    have again : ∀ (s' : Shared) (σ' : L2.St) (H' : Hp), Inv (X.blk s3 H3 scope ce fp) ([] ++ pinsAt fp s7.heap) σ' H' s' → Knows (wipe σ8 vsI) σ' → Nx H' → ∃ m, m < n ∧ ∃ i H', Inv (X.blk s3 H3 scope ce fp) [] (wipe σ (own.map (·.2))) H' s' ∧ tn i s'.heap ∧ (∀ b ∈ fp, H' b = none) ∧ W i m H' := fun s' σ' H' I' kn nx => by
      obtain ⟨m', hm, w'⟩ := hNx H' nx
      have stands : ∀ b ∈ fp, ∀ o, s7.heap.get? b = some o → s'.heap.get? b = some o ∧ H' b = none := fun b hb o e =>
        let z := I'.pin (b, o) (List.mem_append_right _ (List.mem_append_right _ (mem_pinsAt hb e)))
        ⟨z.1, z.2.1⟩
      refine ⟨m', hm, i + 1, H', (I'.unpinned (pins := [])).weak ((congrArg List.length hw8).symm.trans ((wipe_length _ _).trans ((wipe_length _ vsI).symm.trans kn.1))) (fun j v e => ?_), T.keep _ _ _ st7 fun b hb o e => (stands b hb o e).1, fun b hb => ?_, w'⟩
      · rw [← hw8] at e
        obtain ⟨e1, e2⟩ := wipe_some e
        exact kn.2 j v (by rw [wipe_out fun z => e2 (hvI j z)]; exact e1)
      · obtain ⟨o, e, _⟩ := T.obj _ _ st7 b hb
        exact (stands b hb o e).2
    cases b with
    | false => exact again s9 σ8 H9 I9 ⟨wipe_length _ _, fun j v e => (wipe_some e).1⟩ q9
    | true => exact pa D _ Nx _ _ σ8 H9 s9 I9 q9 again

theorem inner_core {s3 : Shared} {H3 : Hp} {ce : Env} {fp : List Addr} {k : Nat} {acc : Value} {D : Addr} {vs1 vsI : List Nat} {Body1 : (Result → Shared → Prop) → (Shared → Prop) → Shared → Prop} {R : Result → Shared → Prop} (hc : X.calm = true) (hvI : ∀ i ∈ vsI, i ∈ vs1)
    (pi1 : PI (X.blk s3 H3 scope ce fp) tg iter wi) (pg1 : PG (X.blk s3 H3 scope ce fp) tg g) (pt1 : PTs (X.blk s3 H3 scope ce fp) ifs tt)
    (hloop : ∀ (it : Value) (R : Result → Shared → Prop) (I : Nat → Shared → Prop), (∀ n s, I n s → TurnIs X.prog X.w X.A tg iter ifs it ce R (Body1 R) (fun s' => ∃ m, m < n ∧ I m s') s) → ∀ n s, I n s → codeAny (model X.prog X.w) X.A (.compLoop node k it acc ce) R s)
    (hstart : ∀ (it : Value) (R : Result → Shared → Prop) (s : Shared), codeAny (model X.prog X.w) X.A (.compLoop node k it acc ce) R s →
      wpAny (model X.prog X.w) X.A (pyIter it) (fun it' s' => codeAny (model X.prog X.w) X.A (.compLoop node k it' acc ce) R s') (notedBy (model X.prog X.w) X.A ce fun x s' => R (.error x) s') s → codeAny (model X.prog X.w) X.A (.compStart node k it acc ce) R s)
    (hadd : ∀ (R : Result → Shared → Prop) (Nx : Hp → Prop) (back : Shared → Prop) (pins' : List (Addr × Obj)) (σ2 : L2.St) (H6 : Hp) (s6 : Shared), Inv (X.blk s3 H3 scope ce fp) pins' σ2 H6 s6 → add D σ2 H6 Nx →
      (∀ s' σ' H', Inv (X.blk s3 H3 scope ce fp) pins' σ' H' s' → Knows (wipe σ2 vsI) σ' → Nx H' → back s') → Body1 R back s6)
    (I : Inv (X.blk s3 H3 scope ce fp) pins σ H s) {Nx : Hp → Prop} (q : tIn wi g tt add vs1 D σ H Nx) {back : Shared → Prop}
    (hb : ∀ s' σ' H', Inv (X.blk s3 H3 scope ce fp) pins σ' H' s' → Knows (wipe σ vs1) σ' → Nx H' → back s') : BodyTo X.prog X.w X.A ce node iter k acc R back s := by
  refine thnF (pi1.run pins s σ H _ I q) fun xv s10 hx => thnF hx fun itv s11 h11 => ?_
  obtain ⟨it1, fp1, tn1, J1, H11, e1, I11, T1, st11, f11, W1, ⟨m1, w1⟩, turn1⟩ := h11
  subst e1
  have stat1 : ∀ {H' : Hp}, (∀ b ∈ fp1, H' b = none) → ∀ b ∈ fp1, FpOk (X.blk s3 H3 scope ce fp) pins H' b := fun hn b hb => ⟨hn b hb, (f11 b hb).2⟩
  have loop1 : codeAny (model X.prog X.w) X.A (.compLoop node k (.ref it1) acc ce) (fun r s' => match r with
      | .ok _ => back s'
      | .error _ => False) s11 := by
    refine hloop _ _ (fun k s' => ∃ j H', Inv (X.blk s3 H3 scope ce fp) pins (wipe σ vs1) H' s' ∧ tn1 j s'.heap ∧ (∀ b ∈ fp1, H' b = none) ∧ W1 j k H') ?_ m1 s11 ⟨0, H11, I11.weak (wipe_length _ _) (fun j v e => (wipe_some e).1), st11, fun b hb => (f11 b hb).1, w1⟩
    rintro k s12 ⟨j, H12, I12, st12, n12, w12⟩
    rcases turn1 j k H12 w12 with ⟨stop1, nx1⟩ | ⟨go1, Nx1, hNx1, step1⟩
    · refine thnF (T1.done (X.blk s3 H3 scope ce fp) rfl rfl rfl hc j _ s12 (wipe σ vs1) H12 (fun _ _ => False) I12 (stat1 n12) st12 stop1) fun r s13 ⟨hr, I13⟩ => ?_
      subst hr
      exact hb _ _ _ I13 ⟨rfl, fun _ _ e => e⟩ nx1
    · refine thnF (T1.item (X.blk s3 H3 scope ce fp) rfl rfl rfl hc j _ s12 (wipe σ vs1) H12 (fun _ _ => False) I12 (stat1 n12) st12 go1) fun r s13 ⟨u1, hr, h13⟩ => ?_
      subst hr
      refine thnF h13 fun _ s14 ⟨x1, H14, I14, r14, y14, st14, n14⟩ => ?_
      have I14' := I14.pinned (stat1 n14) (T1.obj _ _ st14)
      refine thnF (pg1.run _ s14 (wipe σ vs1) H14 x1 u1 _ I14' r14 (step1 x1 H14 y14)) fun _ s15 ⟨σ15, H15, I15, hw15, q15⟩ => ?_
      refine thnF (pt1.run _ s15 σ15 H15 _ I15 q15) fun b1 s16 ⟨H16, I16, q16⟩ => ?_
      have fin1 : ∀ (s' : Shared) (σ' : L2.St) (H' : Hp), Inv (X.blk s3 H3 scope ce fp) (pins ++ pinsAt fp1 s14.heap) σ' H' s' → Knows (wipe σ15 vsI) σ' → Nx1 H' → ∃ m, m < k ∧ ∃ j H', Inv (X.blk s3 H3 scope ce fp) pins (wipe σ vs1) H' s' ∧ tn1 j s'.heap ∧ (∀ b ∈ fp1, H' b = none) ∧ W1 j m H' := fun s' σ' H' I' kn nx => by
        obtain ⟨m', hm, w'⟩ := hNx1 H' nx
        have pin' : ∀ b ∈ fp1, ∀ o, s14.heap.get? b = some o → s'.heap.get? b = some o ∧ H' b = none := fun b hb o e =>
          let z := I'.pin (b, o) (List.mem_append_right _ (List.mem_append_right _ (mem_pinsAt hb e)))
          ⟨z.1, z.2.1⟩
        refine ⟨m', hm, j + 1, H', I'.unpinned.weak ((congrArg List.length hw15).symm.trans ((wipe_length _ _).trans ((wipe_length _ vsI).symm.trans kn.1))) (fun j v e => ?_), T1.keep _ _ _ st14 fun b hb o e => (pin' b hb o e).1, fun b hb => ?_, w'⟩
        · rw [← hw15] at e
          obtain ⟨e1, e2⟩ := wipe_some e
          exact kn.2 j v (by rw [wipe_out fun z => e2 (hvI j z)]; exact e1)
        · obtain ⟨o, e, _⟩ := T1.obj _ _ st14 b hb
          exact (pin' b hb o e).2
      cases b1 with
      | false => exact fin1 s16 σ15 H16 I16 ⟨wipe_length _ _, fun j v e => (wipe_some e).1⟩ q16
      | true => exact hadd _ Nx1 _ _ σ15 H16 s16 I16 q16 fin1
  exact hstart _ _ _ loop1 (T1.self X.A 0 _ _ _ st11 loop1)
end
end L2

set_option Elab.async false
set_option maxRecDepth 100000
set_option maxHeartbeats 4000000
namespace L2
open PySem PySem.Spec PyProof.Rows
set_option linter.unusedVariables false
/-! [e for .. for .. for ..] and {k: v for .. for ..} -/
/-- a turn of [e for ..] -/
def addL (te : TE) : Addr → L2.St → Hp → (Hp → Prop) → Prop := fun D σ H Nx => te σ H fun y H1 => ∃ acc, H1 D = some (.lst acc) ∧ acc.length < sizeLine ∧ Nx (upd H1 D (.lst (acc ++ [y])))
section
variable {X : Cx}
theorem pe_lc3 {elt tg iter tg1 iter1 tg2 iter2 : Expr} {ifs ifs1 ifs2 : List Expr} {scope : Scope} {own : List (PySem.Str × Nat)} {pos : Pos} {vs1 vs2 : List Nat} {wi wi1 wi2 : TI} {g g1 g2 : TG} {tt tt1 tt2 : TT} {te : TE} (hc : X.calm = true) (hN : X.N.Nodup) (hv1 : ∀ i ∈ vs1, i ∈ own.map (·.2)) (hv2 : ∀ i ∈ vs2, i ∈ vs1) (hi : PI X tg iter wi) (ok : BlkOk X.N X.env.scope scope own)
    (hg : ∀ (s : Shared) (H : Hp) (C : Addr) (cl : List (PySem.Str × Addr)) (fp : List Addr), PG (X.blk s H scope (compEnvC scope cl C X.env) fp) tg g)
    (ht : ∀ (s : Shared) (H : Hp) (C : Addr) (cl : List (PySem.Str × Addr)) (fp : List Addr), PTs (X.blk s H scope (compEnvC scope cl C X.env) fp) ifs tt)
    (hi1 : ∀ (s : Shared) (H : Hp) (C : Addr) (cl : List (PySem.Str × Addr)) (fp : List Addr), PI (X.blk s H scope (compEnvC scope cl C X.env) fp) tg1 iter1 wi1)
    (hg1 : ∀ (s : Shared) (H : Hp) (C : Addr) (cl : List (PySem.Str × Addr)) (fp : List Addr), PG (X.blk s H scope (compEnvC scope cl C X.env) fp) tg1 g1)
    (ht1 : ∀ (s : Shared) (H : Hp) (C : Addr) (cl : List (PySem.Str × Addr)) (fp : List Addr), PTs (X.blk s H scope (compEnvC scope cl C X.env) fp) ifs1 tt1)
    (hi2 : ∀ (s : Shared) (H : Hp) (C : Addr) (cl : List (PySem.Str × Addr)) (fp : List Addr), PI (X.blk s H scope (compEnvC scope cl C X.env) fp) tg2 iter2 wi2)
    (hg2 : ∀ (s : Shared) (H : Hp) (C : Addr) (cl : List (PySem.Str × Addr)) (fp : List Addr), PG (X.blk s H scope (compEnvC scope cl C X.env) fp) tg2 g2)
    (ht2 : ∀ (s : Shared) (H : Hp) (C : Addr) (cl : List (PySem.Str × Addr)) (fp : List Addr), PTs (X.blk s H scope (compEnvC scope cl C X.env) fp) ifs2 tt2)
    (he : ∀ (s : Shared) (H : Hp) (C : Addr) (cl : List (PySem.Str × Addr)) (fp : List Addr), PE (X.blk s H scope (compEnvC scope cl C X.env) fp) elt te)
    (hs : ∀ x, foldedSetIterable iter X.env x = pure x := by intro _; rfl) (hs1 : ∀ env x, foldedSetIterable iter1 env x = pure x := by intro _ _; rfl) (hs2 : ∀ env x, foldedSetIterable iter2 env x = pure x := by intro _ _; rfl) :
    PE X (.ListComp elt [⟨tg, iter, ifs, 0⟩, ⟨tg1, iter1, ifs1, 0⟩, ⟨tg2, iter2, ifs2, 0⟩] scope pos) (tGather (fun _ => .lst []) wi g tt (tIn wi1 g1 tt1 (tIn wi2 g2 tt2 (addL te) vs2) vs1) (own.map (·.2))) := by
  refine ⟨fun pins s σ H Q I h => ?_⟩
  rw [eval_ListComp]
  refine gatherN (rest := [⟨tg1, iter1, ifs1, 0⟩, ⟨tg2, iter2, ifs2, 0⟩]) (vsI := vs1) (ob := { cls := .type "list", data := .seq ([] : List Value).toArray }) (mk := newList []) (o0 := fun _ => .lst []) (add := tIn wi1 g1 tt1 (tIn wi2 g2 tt2 (addL te) vs2) vs1)
    (Body := fun acc env R => BodyTo X.prog X.w X.A env (.ListComp elt [⟨tg, iter, ifs, 0⟩, ⟨tg1, iter1, ifs1, 0⟩, ⟨tg2, iter2, ifs2, 0⟩] scope pos) iter1 1 acc R)
    hv1 hc hN I hi ok rfl (fun A E s Q q => wpAny_newObj_type q (by show 0 ≤ sizeLine; decide)) (fun h H hb => ⟨Nat.zero_le _, [], 0, .nil, Heap.get?_push_size _ rfl⟩) (fun it D env R I turn n s => loop_out runs_list (fun _ _ _ => rfl) (hs1 env) I turn n s) (fun it acc env R s a b => codeAny_compStart_list a b) hg ht ?_ hs h ?_
  · intro s H C cl fp D R Nx back pins' σ2 H3 s3 I3 q3 k
    refine inner_core (vsI := vs2) (Body1 := fun R => BodyTo X.prog X.w X.A (compEnvC scope cl C X.env) (.ListComp elt [⟨tg, iter, ifs, 0⟩, ⟨tg1, iter1, ifs1, 0⟩, ⟨tg2, iter2, ifs2, 0⟩] scope pos) iter2 2 (.ref D) R) hc hv2 (hi1 s H C cl fp) (hg1 s H C cl fp) (ht1 s H C cl fp) (fun it R I turn n s => loop_out runs_list (fun _ _ _ => rfl) (hs2 _) I turn n s) (fun it R s a b => start_ok runs_list ⟨_, _, rfl⟩ a b) ?_ I3 q3 k
    intro R Nx back pins' σ3 H6 s6 I6 q6 k6
    refine inner_core (vsI := []) (Body1 := fun R back s => wpAny (model X.prog X.w) X.A (do let _ ← call (.builtin "list.append") [.ref D, ← eval elt (compEnvC scope cl C X.env)]) (fun _ s' => back s') (notedBy (model X.prog X.w) X.A (compEnvC scope cl C X.env) fun e s' => R (.error e) s') s) hc (fun _ h => nomatch h) (hi2 s H C cl fp) (hg2 s H C cl fp) (ht2 s H C cl fp) (fun it R I turn n s => loop_in runs_list (fun _ => rfl) I turn n s) (fun it R s a b => start_ok runs_list ⟨_, _, rfl⟩ a b) ?_ I6 q6 k6
    intro R Nx back pins' σ4 H9 s9 I9 q9 k9
    refine wpAny_bind (thnF ((he s H C cl fp).run _ s9 σ4 H9 _ I9 q9) fun z s10 ⟨yv, H10, I10, r10, acc, hD, hz, nx⟩ => ?_)
    refine wpAny_bind (app_ok (X := X.blk s H scope (compEnvC scope cl C X.env) fp) I10 hD hz r10 fun s11 I11 => ?_)
    exact wpAny_pure (k9 _ _ _ I11 ⟨rfl, fun _ _ e => e⟩ nx)
  · intro D C s' m H' I' q hn ⟨f0, f1, f2, f3, f4, f5⟩
    exact ⟨m, hn, fun h'' sb => ⟨.ref D, H', I'.turned (t' := s'.toks) (fun b o hb e => (sb.2 b hb).trans e) f0 f1 f3 f4 f5, rfl, q⟩⟩
theorem ps_setLc3 {i : Nat} {y : PySem.Str} {py : Pos} {spos : Pos} {elt tg iter tg1 iter1 tg2 iter2 : Expr} {ifs ifs1 ifs2 : List Expr} {scope : Scope} {own : List (PySem.Str × Nat)} {pos : Pos} {vs1 vs2 : List Nat} {wi wi1 wi2 : TI} {g g1 g2 : TG} {tt tt1 tt2 : TT} {te : TE} (hc : X.calm = true) (hN : X.N.Nodup) (hy : X.N[i]? = some y) (hyl : X.env.scope.names.lookup y = some .local)
    (hsw : swapsWith (.ListComp elt [⟨tg, iter, ifs, 0⟩, ⟨tg1, iter1, ifs1, 0⟩, ⟨tg2, iter2, ifs2, 0⟩] scope pos) (some (.Name y py)) spos.line X.env = pure true) (hv1 : ∀ i ∈ vs1, i ∈ own.map (·.2)) (hv2 : ∀ i ∈ vs2, i ∈ vs1) (hi : PI X tg iter wi) (ok : BlkOk X.N X.env.scope scope own)
    (hg : ∀ (s : Shared) (H : Hp) (C : Addr) (cl : List (PySem.Str × Addr)) (fp : List Addr), PG (X.blk s H scope (compEnvC scope cl C X.env) fp) tg g)
    (ht : ∀ (s : Shared) (H : Hp) (C : Addr) (cl : List (PySem.Str × Addr)) (fp : List Addr), PTs (X.blk s H scope (compEnvC scope cl C X.env) fp) ifs tt)
    (hi1 : ∀ (s : Shared) (H : Hp) (C : Addr) (cl : List (PySem.Str × Addr)) (fp : List Addr), PI (X.blk s H scope (compEnvC scope cl C X.env) fp) tg1 iter1 wi1)
    (hg1 : ∀ (s : Shared) (H : Hp) (C : Addr) (cl : List (PySem.Str × Addr)) (fp : List Addr), PG (X.blk s H scope (compEnvC scope cl C X.env) fp) tg1 g1)
    (ht1 : ∀ (s : Shared) (H : Hp) (C : Addr) (cl : List (PySem.Str × Addr)) (fp : List Addr), PTs (X.blk s H scope (compEnvC scope cl C X.env) fp) ifs1 tt1)
    (hi2 : ∀ (s : Shared) (H : Hp) (C : Addr) (cl : List (PySem.Str × Addr)) (fp : List Addr), PI (X.blk s H scope (compEnvC scope cl C X.env) fp) tg2 iter2 wi2)
    (hg2 : ∀ (s : Shared) (H : Hp) (C : Addr) (cl : List (PySem.Str × Addr)) (fp : List Addr), PG (X.blk s H scope (compEnvC scope cl C X.env) fp) tg2 g2)
    (ht2 : ∀ (s : Shared) (H : Hp) (C : Addr) (cl : List (PySem.Str × Addr)) (fp : List Addr), PTs (X.blk s H scope (compEnvC scope cl C X.env) fp) ifs2 tt2)
    (he : ∀ (s : Shared) (H : Hp) (C : Addr) (cl : List (PySem.Str × Addr)) (fp : List Addr), PE (X.blk s H scope (compEnvC scope cl C X.env) fp) elt te)
    (hs : ∀ x, foldedSetIterable iter X.env x = pure x := by intro _; rfl) (hs1 : ∀ env x, foldedSetIterable iter1 env x = pure x := by intro _ _; rfl) (hs2 : ∀ env x, foldedSetIterable iter2 env x = pure x := by intro _ _; rfl) :
    PS X (.Assign [.Name y py] (.ListComp elt [⟨tg, iter, ifs, 0⟩, ⟨tg1, iter1, ifs1, 0⟩, ⟨tg2, iter2, ifs2, 0⟩] scope pos) spos) (tAsg (tGather (fun _ => .lst []) wi g tt (tIn wi1 g1 tt1 (tIn wi2 g2 tt2 (addL te) vs2) vs1) (own.map (·.2))) (gName i)) := by
  refine ⟨fun pins s σ H D I h => ?_⟩
  rw [exec_Assign_Name_used _ _ _ _ hsw]
  refine wpAny_bind (wpAny_standAt (wpAny_bind ?_))
  show wpAny _ X.A (do let _ ← comprehension (.ListComp elt [⟨tg, iter, ifs, 0⟩, ⟨tg1, iter1, ifs1, 0⟩, ⟨tg2, iter2, ifs2, 0⟩] scope pos) scope X.env (firstIterPos [⟨tg, iter, ifs, 0⟩, ⟨tg1, iter1, ifs1, 0⟩, ⟨tg2, iter2, ifs2, 0⟩] pos) (newList []) false (eval iter X.env) (some (assign (.Name y py) X.env))) _ _ s
  have h : tGather (fun _ => .lst []) wi g tt (tIn wi1 g1 tt1 (tIn wi2 g2 tt2 (addL te) vs2) vs1) (own.map (·.2)) σ H (fun x H1 => gName i x σ H1 D.nx) := h
  refine wpAny_bind (thn (gatherN (rest := [⟨tg1, iter1, ifs1, 0⟩, ⟨tg2, iter2, ifs2, 0⟩]) (vsI := vs1) (Qf := fun _ s1 => SP X pins D .next s1) (use := some (assign (.Name y py) X.env)) (ob := { cls := .type "list", data := .seq ([] : List Value).toArray }) (mk := newList []) (o0 := fun _ => .lst []) (add := tIn wi1 g1 tt1 (tIn wi2 g2 tt2 (addL te) vs2) vs1)
    (Body := fun acc env R => BodyTo X.prog X.w X.A env (.ListComp elt [⟨tg, iter, ifs, 0⟩, ⟨tg1, iter1, ifs1, 0⟩, ⟨tg2, iter2, ifs2, 0⟩] scope pos) iter1 1 acc R)
    hv1 hc hN I hi ok rfl (fun A E s Q q => wpAny_newObj_type q (by show 0 ≤ sizeLine; decide)) (fun h H hb => ⟨Nat.zero_le _, [], 0, .nil, Heap.get?_push_size _ rfl⟩) (fun it D env R I turn n s => loop_out runs_list (fun _ _ _ => rfl) (hs1 env) I turn n s) (fun it acc env R s a b => codeAny_compStart_list a b) hg ht ?_ hs h ?_) fun _ s' hq => wpAny_pure (wpAny_pure hq))
  · intro s H C cl fp D R Nx back pins' σ2 H3 s3 I3 q3 k
    refine inner_core (vsI := vs2) (Body1 := fun R => BodyTo X.prog X.w X.A (compEnvC scope cl C X.env) (.ListComp elt [⟨tg, iter, ifs, 0⟩, ⟨tg1, iter1, ifs1, 0⟩, ⟨tg2, iter2, ifs2, 0⟩] scope pos) iter2 2 (.ref D) R) hc hv2 (hi1 s H C cl fp) (hg1 s H C cl fp) (ht1 s H C cl fp) (fun it R I turn n s => loop_out runs_list (fun _ _ _ => rfl) (hs2 _) I turn n s) (fun it R s a b => start_ok runs_list ⟨_, _, rfl⟩ a b) ?_ I3 q3 k
    intro R Nx back pins' σ3 H6 s6 I6 q6 k6
    refine inner_core (vsI := []) (Body1 := fun R back s => wpAny (model X.prog X.w) X.A (do let _ ← call (.builtin "list.append") [.ref D, ← eval elt (compEnvC scope cl C X.env)]) (fun _ s' => back s') (notedBy (model X.prog X.w) X.A (compEnvC scope cl C X.env) fun e s' => R (.error e) s') s) hc (fun _ h => nomatch h) (hi2 s H C cl fp) (hg2 s H C cl fp) (ht2 s H C cl fp) (fun it R I turn n s => loop_in runs_list (fun _ => rfl) I turn n s) (fun it R s a b => start_ok runs_list ⟨_, _, rfl⟩ a b) ?_ I6 q6 k6
    intro R Nx back pins' σ4 H9 s9 I9 q9 k9
    refine wpAny_bind (thnF ((he s H C cl fp).run _ s9 σ4 H9 _ I9 q9) fun z s10 ⟨yv, H10, I10, r10, acc, hD, hz, nx⟩ => ?_)
    refine wpAny_bind (app_ok (X := X.blk s H scope (compEnvC scope cl C X.env) fp) I10 hD hz r10 fun s11 I11 => ?_)
    exact wpAny_pure (k9 _ _ _ I11 ⟨rfl, fun _ _ e => e⟩ nx)
  · intro L C s' m H' I' q hn f
    show wpAny _ _ (assign (.Name y py) X.env (.ref L)) _ _ _
    refine wpAny_assign_Name (store_ok2 (v := V.ref L) I' hN hy (.inl hyl) rfl (fun s2 I2 ⟨a, sb, ha⟩ => ?_) (.inr hyl))
    obtain ⟨f0, f1, f2, f3, f4, f5⟩ := f
    have haC : C ≠ a := by
      rcases ha with z | z
      · rw [z]; exact f1
      · exact fun e => f4 y a z e.symm
    refine ⟨m, hn.sameBut sb haC, fun h3 sb3 => ?_⟩
    exact ⟨_, H', I2.turned (t' := s2.toks) (fun b o hb e => (sb3.2 b hb).trans e) f0 f1 f3 f4 f5, q⟩
theorem pe_dcT2 {kx vx tg iter tg1 iter1 : Expr} {ifs ifs1 : List Expr} {scope : Scope} {own : List (PySem.Str × Nat)} {pos : Pos} {vs1 : List Nat} {wi wi1 : TI} {g g1 : TG} {tt tt1 : TT} {tk tv : TE} (hu : X.A.units + 1 < cLine) (hc : X.calm = true) (hN : X.N.Nodup) (hv1 : ∀ i ∈ vs1, i ∈ own.map (·.2)) (hi : PI X tg iter wi) (ok : BlkOk X.N X.env.scope scope own)
    (hg : ∀ (s : Shared) (H : Hp) (C : Addr) (cl : List (PySem.Str × Addr)) (fp : List Addr), PG (X.blk s H scope (compEnvC scope cl C X.env) fp) tg g)
    (ht : ∀ (s : Shared) (H : Hp) (C : Addr) (cl : List (PySem.Str × Addr)) (fp : List Addr), PTs (X.blk s H scope (compEnvC scope cl C X.env) fp) ifs tt)
    (hi1 : ∀ (s : Shared) (H : Hp) (C : Addr) (cl : List (PySem.Str × Addr)) (fp : List Addr), PI (X.blk s H scope (compEnvC scope cl C X.env) fp) tg1 iter1 wi1)
    (hg1 : ∀ (s : Shared) (H : Hp) (C : Addr) (cl : List (PySem.Str × Addr)) (fp : List Addr), PG (X.blk s H scope (compEnvC scope cl C X.env) fp) tg1 g1)
    (ht1 : ∀ (s : Shared) (H : Hp) (C : Addr) (cl : List (PySem.Str × Addr)) (fp : List Addr), PTs (X.blk s H scope (compEnvC scope cl C X.env) fp) ifs1 tt1)
    (hk : ∀ (s : Shared) (H : Hp) (C : Addr) (cl : List (PySem.Str × Addr)) (fp : List Addr), PE (X.blk s H scope (compEnvC scope cl C X.env) fp) kx tk)
    (he : ∀ (s : Shared) (H : Hp) (C : Addr) (cl : List (PySem.Str × Addr)) (fp : List Addr), PE (X.blk s H scope (compEnvC scope cl C X.env) fp) vx tv)
    (hs : ∀ x, foldedSetIterable iter X.env x = pure x := by intro _; rfl) (hs1 : ∀ env x, foldedSetIterable iter1 env x = pure x := by intro _ _; rfl) :
    PE X (.DictComp kx vx [⟨tg, iter, ifs, 0⟩, ⟨tg1, iter1, ifs1, 0⟩] scope pos) (tGather (fun _ => .dT []) wi g tt (tIn wi1 g1 tt1 (addT tk tv) vs1) (own.map (·.2))) := by
  refine ⟨fun pins s σ H Q I h => ?_⟩
  rw [arm_eval_DictComp]
  refine gatherN (rest := [⟨tg1, iter1, ifs1, 0⟩]) (vsI := vs1) (ob := { cls := .type "dict", data := .dict #[] }) (mk := newDict) (o0 := fun _ => .dT []) (add := tIn wi1 g1 tt1 (addT tk tv) vs1)
    (Body := fun acc env R => BodyTo X.prog X.w X.A env (.DictComp kx vx [⟨tg, iter, ifs, 0⟩, ⟨tg1, iter1, ifs1, 0⟩] scope pos) iter1 1 acc R)
    hv1 hc hN I hi ok rfl (fun A E s Q q => wpAny_newObj_type q) (fun h H hb => dt_empty h hb) (fun it D env R I turn n s => loop_out runs_dict (fun _ _ _ => rfl) (hs1 env) I turn n s) (fun it acc env R s a b => codeAny_compStart_dict a b) hg ht ?_ hs h ?_
  · intro s H C cl fp D R Nx back pins' σ2 H3 s3 I3 q3 k
    refine inner_core (vsI := []) (Body1 := fun R back s => wpAny (model X.prog X.w) X.A (do
            let kv ← eval kx (compEnvC scope cl C X.env)
            let vv ← holding [kv] (eval vx (compEnvC scope cl C X.env))
            standAt { kx.pos with endLine := vx.pos.endLine, endCol := vx.pos.endCol }
            holding [kv, vv] (dictSet D kv vv)) (fun _ s' => back s') (notedBy (model X.prog X.w) X.A (compEnvC scope cl C X.env) fun e s' => R (.error e) s') s) hc (fun _ h => nomatch h) (hi1 s H C cl fp) (hg1 s H C cl fp) (ht1 s H C cl fp) (fun it R I turn n s => loop_in runs_dict (fun _ => rfl) I turn n s) (fun it R s a b => start_ok runs_dict ⟨_, _, rfl⟩ a b) ?_ I3 q3 k
    intro R Nx back pins' σ4 H9 s9 I9 q9 k9
    refine wpAny_bind (thnF ((hk s H C cl fp).run _ s9 σ4 H9 _ I9 q9) fun z s10 ⟨yk, H10, I10, r10, q10⟩ => ?_)
    refine wpAny_bind (wpAny_holding (thnF ((he s H C cl fp).run _ s10 σ4 H10 _ I10 q10) fun z2 s11 ⟨yv, H11, I11, r11, kvs, ks, b, ey, hb, hD, hz, nx⟩ => ?_))
    refine wpAny_bind (wpAny_standAt (wpAny_holding ?_))
    subst ey
    cases (show z = Value.ref b from r10)
    obtain ⟨hl, hd, xs, rel, dd⟩ := dt_of I11.hok hD
    have hz' : xs.length ≤ sizeLine := by rw [← Paired.length rel]; exact hl
    have grown : (putK kvs ks yv).length ≤ sizeLine := by have := length_putK kvs ks yv; omega
    refine wpAny_dictSet_heap (hsz := hz') (show X.A.units < cLine by omega) (key_of I11.hok hb) dd fun h' dd' same => k9 _ _ _ ?_ ⟨rfl, fun _ _ e => e⟩ nx
    obtain ⟨q, es, ep, hq, h2, h3, h4, _, h5⟩ := dd'
    refine d_write I11 (by rw [hD]; exact True.intro) same ⟨q, hq⟩ ⟨grown, hd, _, (rel.put ks hb r11).keeps fun c ys ec => ?_, q, es, ep, hq, h2, h3, h4, h5⟩
    rw [upd_ne (ne_of ec hD (fun z => nomatch z))]
    exact ec
  · intro D C s' m H' I' q hn ⟨f0, f1, f2, f3, f4, f5⟩
    exact ⟨m, hn, fun h'' sb => ⟨.ref D, H', I'.turned (t' := s'.toks) (fun b o hb e => (sb.2 b hb).trans e) f0 f1 f3 f4 f5, rfl, q⟩⟩
theorem ps_setDcT2 {i : Nat} {y : PySem.Str} {py : Pos} {spos : Pos} {kx vx tg iter tg1 iter1 : Expr} {ifs ifs1 : List Expr} {scope : Scope} {own : List (PySem.Str × Nat)} {pos : Pos} {vs1 : List Nat} {wi wi1 : TI} {g g1 : TG} {tt tt1 : TT} {tk tv : TE} (hu : X.A.units + 1 < cLine) (hc : X.calm = true) (hN : X.N.Nodup) (hy : X.N[i]? = some y) (hyl : X.env.scope.names.lookup y = some .local)
    (hsw : swapsWith (.DictComp kx vx [⟨tg, iter, ifs, 0⟩, ⟨tg1, iter1, ifs1, 0⟩] scope pos) (some (.Name y py)) spos.line X.env = pure true) (hv1 : ∀ i ∈ vs1, i ∈ own.map (·.2)) (hi : PI X tg iter wi) (ok : BlkOk X.N X.env.scope scope own)
    (hg : ∀ (s : Shared) (H : Hp) (C : Addr) (cl : List (PySem.Str × Addr)) (fp : List Addr), PG (X.blk s H scope (compEnvC scope cl C X.env) fp) tg g)
    (ht : ∀ (s : Shared) (H : Hp) (C : Addr) (cl : List (PySem.Str × Addr)) (fp : List Addr), PTs (X.blk s H scope (compEnvC scope cl C X.env) fp) ifs tt)
    (hi1 : ∀ (s : Shared) (H : Hp) (C : Addr) (cl : List (PySem.Str × Addr)) (fp : List Addr), PI (X.blk s H scope (compEnvC scope cl C X.env) fp) tg1 iter1 wi1)
    (hg1 : ∀ (s : Shared) (H : Hp) (C : Addr) (cl : List (PySem.Str × Addr)) (fp : List Addr), PG (X.blk s H scope (compEnvC scope cl C X.env) fp) tg1 g1)
    (ht1 : ∀ (s : Shared) (H : Hp) (C : Addr) (cl : List (PySem.Str × Addr)) (fp : List Addr), PTs (X.blk s H scope (compEnvC scope cl C X.env) fp) ifs1 tt1)
    (hk : ∀ (s : Shared) (H : Hp) (C : Addr) (cl : List (PySem.Str × Addr)) (fp : List Addr), PE (X.blk s H scope (compEnvC scope cl C X.env) fp) kx tk)
    (he : ∀ (s : Shared) (H : Hp) (C : Addr) (cl : List (PySem.Str × Addr)) (fp : List Addr), PE (X.blk s H scope (compEnvC scope cl C X.env) fp) vx tv)
    (hs : ∀ x, foldedSetIterable iter X.env x = pure x := by intro _; rfl) (hs1 : ∀ env x, foldedSetIterable iter1 env x = pure x := by intro _ _; rfl) :
    PS X (.Assign [.Name y py] (.DictComp kx vx [⟨tg, iter, ifs, 0⟩, ⟨tg1, iter1, ifs1, 0⟩] scope pos) spos) (tAsg (tGather (fun _ => .dT []) wi g tt (tIn wi1 g1 tt1 (addT tk tv) vs1) (own.map (·.2))) (gName i)) := by
  refine ⟨fun pins s σ H D I h => ?_⟩
  rw [exec_Assign_Name_used _ _ _ _ hsw]
  refine wpAny_bind (wpAny_standAt (wpAny_bind ?_))
  show wpAny _ X.A (do let _ ← comprehension (.DictComp kx vx [⟨tg, iter, ifs, 0⟩, ⟨tg1, iter1, ifs1, 0⟩] scope pos) scope X.env (firstIterPos [⟨tg, iter, ifs, 0⟩, ⟨tg1, iter1, ifs1, 0⟩] pos) newDict false (eval iter X.env) (some (assign (.Name y py) X.env))) _ _ s
  have h : tGather (fun _ => .dT []) wi g tt (tIn wi1 g1 tt1 (addT tk tv) vs1) (own.map (·.2)) σ H (fun x H1 => gName i x σ H1 D.nx) := h
  refine wpAny_bind (thn (gatherN (rest := [⟨tg1, iter1, ifs1, 0⟩]) (vsI := vs1) (Qf := fun _ s1 => SP X pins D .next s1) (use := some (assign (.Name y py) X.env)) (ob := { cls := .type "dict", data := .dict #[] }) (mk := newDict) (o0 := fun _ => .dT []) (add := tIn wi1 g1 tt1 (addT tk tv) vs1)
    (Body := fun acc env R => BodyTo X.prog X.w X.A env (.DictComp kx vx [⟨tg, iter, ifs, 0⟩, ⟨tg1, iter1, ifs1, 0⟩] scope pos) iter1 1 acc R)
    hv1 hc hN I hi ok rfl (fun A E s Q q => wpAny_newObj_type q) (fun h H hb => dt_empty h hb) (fun it D env R I turn n s => loop_out runs_dict (fun _ _ _ => rfl) (hs1 env) I turn n s) (fun it acc env R s a b => codeAny_compStart_dict a b) hg ht ?_ hs h ?_) fun _ s' hq => wpAny_pure (wpAny_pure hq))
  · intro s H C cl fp D R Nx back pins' σ2 H3 s3 I3 q3 k
    refine inner_core (vsI := []) (Body1 := fun R back s => wpAny (model X.prog X.w) X.A (do
            let kv ← eval kx (compEnvC scope cl C X.env)
            let vv ← holding [kv] (eval vx (compEnvC scope cl C X.env))
            standAt { kx.pos with endLine := vx.pos.endLine, endCol := vx.pos.endCol }
            holding [kv, vv] (dictSet D kv vv)) (fun _ s' => back s') (notedBy (model X.prog X.w) X.A (compEnvC scope cl C X.env) fun e s' => R (.error e) s') s) hc (fun _ h => nomatch h) (hi1 s H C cl fp) (hg1 s H C cl fp) (ht1 s H C cl fp) (fun it R I turn n s => loop_in runs_dict (fun _ => rfl) I turn n s) (fun it R s a b => start_ok runs_dict ⟨_, _, rfl⟩ a b) ?_ I3 q3 k
    intro R Nx back pins' σ4 H9 s9 I9 q9 k9
    refine wpAny_bind (thnF ((hk s H C cl fp).run _ s9 σ4 H9 _ I9 q9) fun z s10 ⟨yk, H10, I10, r10, q10⟩ => ?_)
    refine wpAny_bind (wpAny_holding (thnF ((he s H C cl fp).run _ s10 σ4 H10 _ I10 q10) fun z2 s11 ⟨yv, H11, I11, r11, kvs, ks, b, ey, hb, hD, hz, nx⟩ => ?_))
    refine wpAny_bind (wpAny_standAt (wpAny_holding ?_))
    subst ey
    cases (show z = Value.ref b from r10)
    obtain ⟨hl, hd, xs, rel, dd⟩ := dt_of I11.hok hD
    have hz' : xs.length ≤ sizeLine := by rw [← Paired.length rel]; exact hl
    have grown : (putK kvs ks yv).length ≤ sizeLine := by have := length_putK kvs ks yv; omega
    refine wpAny_dictSet_heap (hsz := hz') (show X.A.units < cLine by omega) (key_of I11.hok hb) dd fun h' dd' same => k9 _ _ _ ?_ ⟨rfl, fun _ _ e => e⟩ nx
    obtain ⟨q, es, ep, hq, h2, h3, h4, _, h5⟩ := dd'
    refine d_write I11 (by rw [hD]; exact True.intro) same ⟨q, hq⟩ ⟨grown, hd, _, (rel.put ks hb r11).keeps fun c ys ec => ?_, q, es, ep, hq, h2, h3, h4, h5⟩
    rw [upd_ne (ne_of ec hD (fun z => nomatch z))]
    exact ec
  · intro L C s' m H' I' q hn f
    show wpAny _ _ (assign (.Name y py) X.env (.ref L)) _ _ _
    refine wpAny_assign_Name (store_ok2 (v := V.ref L) I' hN hy (.inl hyl) rfl (fun s2 I2 ⟨a, sb, ha⟩ => ?_) (.inr hyl))
    obtain ⟨f0, f1, f2, f3, f4, f5⟩ := f
    have haC : C ≠ a := by
      rcases ha with z | z
      · rw [z]; exact f1
      · exact fun e => f4 y a z e.symm
    refine ⟨m, hn.sameBut sb haC, fun h3 sb3 => ?_⟩
    exact ⟨_, H', I2.turned (t' := s2.toks) (fun b o hb e => (sb3.2 b hb).trans e) f0 f1 f3 f4 f5, q⟩
end
end L2

set_option Elab.async false
set_option maxRecDepth 100000
set_option maxHeartbeats 4000000
namespace L2
open PySem PySem.Spec PyProof.Rows PySem.W
set_option linter.unusedVariables false
/-! for x in d.values(), d a locked dict of tuple keys -/
def Itvt (d : Addr) (o : Obj) (kvs : List (List Key × V)) : It :=
  ⟨fun i H => H d = some (.frz o (.dT kvs)) ∧ i < kvs.length, fun i H x H' => H' = H ∧ ∃ k, kvs[i]? = some (k, x), fun i H => H d = some (.frz o (.dT kvs)) ∧ kvs.length ≤ i⟩
theorem turn_valsT {P : Program} {w : World} {K : PySem.W.Frag} {tg : Expr} {d : Addr} {o : Obj} {es : Array DictEntry} {ep : Nat} {kvs : List (List Key × V)} (it : Addr) (hod : o.data = .dict es ep) :
    Turn P w K tg (Itvt d o kvs) [it] it (fun i h => h.IsValIter it d i kvs.length ep) where
  mem := by simp
  obj := fun i h st b hb => by
    have e : b = it := by simpa using hb
    subst e
    obtain ⟨oi, e, c, dd⟩ := st
    exact ⟨oi, e, fun v z => by rw [dd] at z; cases z⟩
  keep := fun i h h' st k => st.at fun oi e => k it (by simp) oi e
  item := by
    rintro X rfl rfl rfl hc i pins s σ H E I hf st ⟨hd, hi⟩
    obtain ⟨f0, f1, f2, f3, f4, f5⟩ := hf it (by simp)
    obtain ⟨_, es', ep', hdt, raw, hsz, ent⟩ := I.entriesT hd
    obtain ⟨rfl, rfl⟩ := dict_ep hod hdt
    obtain ⟨⟨k, v⟩, hkv⟩ : ∃ p, kvs[i]? = some p := ⟨kvs[i], List.getElem?_eq_getElem hi⟩
    obtain ⟨hi', q, hkey, hq, rv⟩ := ent i k v hkv
    rw [← hsz] at st
    refine wpAny_pyNext_values_item_raw st raw hi' fun h' st' sb => ?_
    have I1 : Inv X pins σ H { s with heap := h' } := I.turned (t' := s.toks) (fun b ob hb e => (sb.2 b hb).trans e) f0 f1 f3 f4 f5
    obtain ⟨oi, e, c, dd⟩ := id st'
    refine ⟨_, rfl, go_of (s := { s with heap := h' }) e c dd (by decide) ⟨v, H, I1, rv, ⟨rfl, k, hkv⟩, ?_, fun b hb => (hf b hb).1⟩⟩
    show h'.IsValIter it d (i + 1) kvs.length _
    rw [← hsz]
    exact st'
  done := by
    rintro X rfl rfl rfl hc i pins s σ H E I hf st ⟨hd, hi⟩
    obtain ⟨f0, f1, f2, f3, f4, f5⟩ := hf it (by simp)
    obtain ⟨_, es', ep', hdt, raw, hsz, ent⟩ := I.entriesT hd
    obtain ⟨rfl, rfl⟩ := dict_ep hod hdt
    rw [← hsz] at st
    exact wpAny_pyNext_values_end_raw (I.ok.hd hc) st raw (by omega) fun h' eb => ⟨rfl, I.turned (t' := s.toks) (fun b ob hb e => eb b ob hb e) f0 f1 f3 f4 f5⟩
  self := fun A i s Q E st h => wpAny_pyIter_valiter st h
def iValsT (td : TE) : TI := fun σ H R => td σ H fun x H1 => ∃ d o kvs, x = .ref d ∧ H1 d = some (.frz o (.dT kvs)) ∧ R (Itvt d o kvs) H1
theorem pi_valuesT {X : Cx} {tg e : Expr} {td : TE} {apos cpos : Pos} (he : PE X e td) (hbase : attributeBase e "values" X.env (eval e X.env) = eval e X.env := by rfl) (hline : (apos.endLine == cpos.line) = true := by rfl) : PI X tg (.Call (.Attribute e "values" apos) [] [] cpos) (iValsT td) := by
  refine ⟨fun pins s σ H R I h => ?_⟩
  refine wpAny_Call_method (T := "dict") (id := "dict.values") hbase rfl hline F.plainAttrs_dict F.slot_dict_values F.type_dict_values (thn (he.run pins s σ H _ I h) fun u s1 ⟨x, H1, I1, rx, d, o, kvs, ex, hd, q⟩ => ?_)
  subst ex
  obtain rfl : u = Value.ref d := rx
  obtain ⟨notSys, es, ep, hdt, raw, hsz, ent⟩ := I1.entriesT hd
  refine ⟨raw.typeIs, fun b z => ?_, ?_⟩
  · cases z
    obtain ⟨ob, h1, h2, h3⟩ := raw
    exact ⟨ob, h1, h2.2.1⟩
  have I2 : Inv X pins σ H1 { s1 with heap := s1.heap.push { cls := .type "dict_values", data := .fields #[.ref d] } } := I1.kept (t' := s1.toks) fun b ob q => Heap.get?_push_of_some _ q
  have fin : wpAny (model X.prog X.w) X.A (pyIter (.ref s1.heap.objs.size)) (PIE X pins σ tg R) X.xe { s1 with heap := s1.heap.push { cls := .type "dict_values", data := .fields #[.ref d] } } := by
    refine wpAny_pyIter_values_raw (d := d) (es := es) (ep := ep) ⟨_, Heap.get?_push_size _ rfl, rfl, rfl⟩ (raw.push _) (pi_one (tk := s1.toks) I2 _ (turn_valsT _ hdt) ⟨_, Heap.get?_push_size _ rfl, rfl, ?_⟩ q)
    rw [hsz] <;> rfl
  show wpAny _ _ (callWith cpos (.builtin "dict.values") [.ref d] [] []) _ X.xe s1
  exact method_meetsIn F.slot_dict_values F.entry_dict_values rfl (PySem.evalArgs_none ⟨rfl, raw.typeIs, F.args_dict_values_1 _, _, meets_dict_values_raw d notSys, ⟨es, ep, raw⟩, fin⟩)
end L2

set_option Elab.async false
set_option maxRecDepth 100000
set_option maxHeartbeats 4000000
namespace L2
open PySem PySem.Spec PyProof.Rows
set_option linter.unusedVariables false
/-! sorted(d), d a dict whose keys are pairs of ints, any number of them -/
/-- what the key at b is -/
def pairAt (H : Hp) (v : Value) : Int × Int := match v with
  | .ref b => (match H b with
    | some (.tup [.int x, .int y]) => (x, y)
    | _ => (0, 0))
  | _ => (0, 0)
theorem pairAt_of {H : Hp} {b : Addr} {x y : Int} (h : H b = some (.tup [.int x, .int y])) : pairAt H (.ref b) = (x, y) := by
  unfold pairAt
  dsimp only
  rw [h]
theorem vals_of_refs2 : ∀ (ks : List (Addr × (Int × Int))), Vals (ks.map fun p => V.ref p.1) (ks.map fun p => Value.ref p.1)
  | [] => .nil
  | p :: ks => .cons rfl (vals_of_refs2 ks)
def rSortDTO : List V → Hp → VK → Prop := fun vs H Q => ∃ (a : Addr) (kvs : List (List Key × V)) (ips : List (Int × Int)), vs = [V.ref a] ∧ Rd H a (.dT kvs) ∧ kvs.map (·.1) = ips.map (fun p => [Sum.inl p.1, Sum.inl p.2]) ∧ ips.length ≤ 100000 ∧
  ∀ (L : List (Addr × (Int × Int))) (p : Addr), (L.map (·.2)).Perm ips → L.Pairwise (fun q r => SrtO.lexB r.2 q.2 = false) → (∀ q ∈ L, H q.1 = some (.tup [.int q.2.1, .int q.2.2])) → H p = none → Q (.ref p) (upd H p (.lst (L.map fun q => V.ref q.1)))
section
variable {X : Cx}
theorem cr_sortedDTO (hc : X.calm = true) : CallR X (.builtin "sorted") rSortDTO := by
  intro pins s σ H vs us Q I r h
  obtain ⟨a, kvs, ips, rfl, hR, hkeys, few, q⟩ := h
  rw [Vals.ref1 r]
  obtain ⟨hz, notSys, ks, pairs, o, es, ep, ho, hx, hdt, rows, nd⟩ := (show ObjOk X.prog X.w H s.heap a (.dT kvs) from hR.ok I.hok)
  have l1 : es.size = ks.length := size_of_entries rows
  have l2 : kvs.length = ks.length := Paired.length pairs
  have l3 : kvs.length = ips.length := by have e := congrArg List.length hkeys; rwa [List.length_map, List.length_map] at e
  -- each row: its tuple, by number
  have row : ∀ (j : Nat) (x : List Key × Addr × Value), ks[j]? = some x → ∃ ns, ips[j]? = some ns ∧ H x.2.1 = some (.tup [.int ns.1, .int ns.2]) := fun j x hj => by
    have lt : j < kvs.length := by have := (List.getElem?_eq_some_iff.mp hj).1; omega
    obtain ⟨b, hb, e1, e2, _⟩ := paired_get pairs (List.getElem?_eq_getElem lt)
    rw [hj] at hb
    cases hb
    have e3 : (kvs.map (·.1))[j]? = some kvs[j].1 := by rw [List.getElem?_map, List.getElem?_eq_getElem lt]; rfl
    rw [hkeys, List.getElem?_map] at e3
    obtain ⟨ns, hns, e4⟩ := Option.map_eq_some_iff.mp e3
    refine ⟨ns, hns, ?_⟩
    rw [e2, ← e4]
    rfl
  refine Calls.call_function_entry kind_sorted plain_sorted entry_sorted (args_sorted1 _) ?_
  unfold Builtin.«sorted»
  refine wpAny_bind (m := checkCount "sorted" 1 1 _) (wpAny_pure ?_)
  refine wpAny_bind (PySem.W.kdu_collect (A := X.A.in1) (kdl_raw notSys hx hdt) (I.ok.hd hc) ho (by rw [sizeLine_eq]; omega) fun h' tk acc kept its => ?_)
  have eq : acc.toList = ks.map fun x => Value.ref x.2.1 := by
    apply List.ext_getElem?
    intro j
    rw [List.getElem?_map]
    rcases Nat.lt_or_ge j ks.length with lt | ge
    · have hacc : j < acc.toList.length := by rw [Array.length_toList, its.1, l1]; exact lt
      obtain ⟨en, hen, hv⟩ := its.2 j acc.toList[j] (by rw [← Array.getElem?_toList]; exact List.getElem?_eq_getElem hacc)
      have qe := entry_at rows j
      rw [hen, List.getElem?_eq_getElem lt] at qe
      have e2 : en = entryOfKey (tupleKind (mixKind X.prog X.w)) ks[j] := Option.some.inj qe
      rw [List.getElem?_eq_getElem hacc, List.getElem?_eq_getElem lt, hv, e2]
      rfl
    · rw [List.getElem?_eq_none (by rw [Array.length_toList, its.1, l1]; exact ge), List.getElem?_eq_none ge]
      rfl
  have I1 : Inv X pins σ H { s with heap := h', toks := tk } := I.kept kept
  have zs : ks.length ≤ sizeLine := by rw [sizeLine_eq]; omega
  refine wpAny_bind (wpAny_newList ?_ (by rw [eq, List.length_map]; exact zs))
  have made : (h'.push (seqObj "list" acc.toList.toArray 0)).get? h'.objs.size = some (seqObj "list" acc.toList.toArray 0) := Heap.get?_push_size _ rfl
  generalize hvs : acc.toList = vs at made eq ⊢
  have I2 : Inv X pins σ H { s with heap := h'.push (seqObj "list" vs.toArray 0), toks := tk } := I1.kept (t' := tk) fun b o e => Heap.get?_push_of_some _ e
  have tups : ∀ v ∈ vs, ∃ (b : Addr) (ns : Int × Int), v = .ref b ∧ ns ∈ ips ∧ H b = some (.tup [.int ns.1, .int ns.2]) := fun v hv => by
    rw [eq] at hv
    obtain ⟨x, hx, rfl⟩ := List.mem_map.mp hv
    obtain ⟨j, hj⟩ := List.getElem?_of_mem hx
    obtain ⟨ns, h1, h2⟩ := row j x hj
    exact ⟨_, ns, rfl, List.mem_of_getElem? h1, h2⟩
  show wpAny _ _ _ _ _ { s with heap := h'.push (seqObj "list" vs.toArray 0), toks := tk }
  refine wpAny_bind (wpAny_holding (wpAny_call_entry slot_list_sort ⟨_, made, rfl⟩ entry_list_sort (SrtO.list_sort_ord (s := { s with heap := h'.push (seqObj "list" vs.toArray 0), toks := tk }) (SrtO.swo_lex (pairAt H)) made (by rw [eq, List.length_map]; exact zs) (fun h2 => SrtO.pairs_sortableO (by omega) (fun v hv => ?_) fun o e => ?_) fun out a2 a1 => ⟨_, rfl, ?_⟩) (args_list_sort _)))
  · obtain ⟨b, ns, rfl, _, ht⟩ := tups v hv
    rw [pairAt_of ht]
    obtain ⟨_, its2, r2, o, ho, hc, n, hd⟩ := I2.hok _ _ ht
    obtain ⟨u1, u2, rfl, ri, rj⟩ := vals2 r2
    obtain ⟨t1, rfl⟩ := ri
    obtain ⟨t2, rfl⟩ := rj
    exact ⟨b, o, t1, t2, n, rfl, ho, hc, hd⟩
  · have e' : some o = some (seqObj "list" vs.toArray 0) := e.symm.trans made
    cases e'
    intro c
    exact absurd (Value.type.inj c) (by decide)
  obtain ⟨e', he'⟩ := sortedHeap_at (vs := vs) (out := out.toArray) made
  have kept2 : ∀ b u, h'.get? b = some u → (sortedHeap (h'.push (seqObj "list" vs.toArray 0)) h'.objs.size vs out.toArray).get? b = some u := fun b u e => by
    have hb : b < h'.objs.size := Heap.lt_size e
    rw [sortedHeap_old (Nat.ne_of_lt hb) (by rw [size_push']; exact Nat.lt_succ_of_lt hb)]
    exact Heap.get?_push_of_some _ e
  -- the rows that come out
  have L0 : ∀ ws : List Value, (∀ v ∈ ws, v ∈ vs) → ∃ L : List (Addr × (Int × Int)), ws = L.map (fun q => Value.ref q.1) ∧ L.map (·.2) = ws.map (pairAt H) ∧ ∀ q ∈ L, H q.1 = some (.tup [.int q.2.1, .int q.2.2]) := by
    intro ws
    induction ws with
    | nil => intro _; exact ⟨[], rfl, rfl, fun q hq => by cases hq⟩
    | cons v ws ih =>
      intro hv
      obtain ⟨b, ns, e, _, h2⟩ := tups v (hv v List.mem_cons_self)
      obtain ⟨L, e1, e2, e3⟩ := ih fun u hu => hv u (List.mem_cons_of_mem _ hu)
      refine ⟨(b, ns) :: L, by rw [List.map_cons, e, e1], by rw [List.map_cons, List.map_cons, e2, e, pairAt_of h2], fun q hq => ?_⟩
      rcases List.mem_cons.mp hq with rfl | z
      · exact h2
      · exact e3 q z
  obtain ⟨L, e1, e2, e3⟩ := L0 out fun v hv => a1.perm.mem_iff.mp hv
  have lenL : (L.map fun q => V.ref q.1).length ≤ sizeLine := by
    have e4 := a1.perm.length_eq
    rw [e1, eq, List.length_map, List.length_map] at e4
    rw [List.length_map, e4]
    exact zs
  refine wpAny_pure ⟨_, rfl, .ref h'.objs.size, upd H h'.objs.size (.lst (L.map fun q => V.ref q.1)), I1.laid (t' := tk) kept2 (Nat.le_refl _)
    (show ObjOk X.prog X.w _ _ _ (.lst (L.map fun q => V.ref q.1)) from ⟨lenL, out, e', by rw [e1]; exact vals_of_refs2 L, he'⟩), rfl, q L _ ?_ ?_ e3 (I1.hok.fresh (Nat.le_refl _))⟩
  · rw [e2]
    refine (a1.perm.map _).trans (List.Perm.of_eq ?_)
    rw [eq, List.map_map]
    apply List.ext_getElem?
    intro j
    rw [List.getElem?_map]
    cases hj : ks[j]? with
    | none => rw [List.getElem?_eq_none (by have := List.getElem?_eq_none_iff.mp hj; omega)]; rfl
    | some x =>
      obtain ⟨ns, h1, h2⟩ := row j x hj
      rw [h1]
      exact congrArg some (pairAt_of h2)
  · have a3 : (out.map (pairAt H)).Pairwise fun x y => SrtO.lexB y x = false := List.pairwise_map.mpr a2
    rw [← e2] at a3
    exact List.pairwise_map.mp a3
end
/-- the same, told as rSortDT tells it, keys of two small ints -/
def rSortDTB (B : Int) : List V → Hp → VK → Prop := fun vs H Q => ∃ (a : Addr) (kvs : List (List Key × V)) (nss : List (List Int)), vs = [V.ref a] ∧ Rd H a (.dT kvs) ∧ kvs.map (·.1) = nss.map (fun ns => ns.map Sum.inl) ∧ nss.length ≤ 100000 ∧
  (∀ ns ∈ nss, ns.length = 2 ∧ TS.Bd B ns) ∧
  ∀ (L : List (Addr × List Int)) (p : Addr), (L.map (·.2)).Perm nss → L.Pairwise (fun q r => TS.code B q.2 ≤ TS.code B r.2) → (∀ q ∈ L, H q.1 = some (.tup (q.2.map V.int))) → H p = none → Q (.ref p) (upd H p (.lst (L.map fun q => V.ref q.1)))
section
variable {X : Cx}
theorem cr_sortedDTB {B : Int} (hc : X.calm = true) : CallR X (.builtin "sorted") (rSortDTB B) := by
  intro pins s σ H vs us Q I r h
  obtain ⟨a, kvs, nss, rfl, hR, hkeys, few, hB, q⟩ := h
  refine cr_sortedDTO hc pins s σ H [V.ref a] us Q I r ⟨a, kvs, nss.map fun ns => (ns.getD 0 0, ns.getD 1 0), rfl, hR, ?_, by rw [List.length_map]; exact few, fun L p pm pw hL hp => ?_⟩
  · rw [hkeys, List.map_map]
    refine List.map_congr_left fun ns hns => ?_
    obtain ⟨e, _⟩ := hB ns hns
    match ns, e with
    | [x, y], _ => rfl
  · have qq := q (L.map fun e => (e.1, [e.2.1, e.2.2])) p ?_ ?_ ?_ hp
    · rw [List.map_map] at qq
      exact qq
    · rw [List.map_map]
      have e1 := pm.map fun e : Int × Int => [e.1, e.2]
      rw [List.map_map, List.map_map] at e1
      refine e1.trans (List.Perm.of_eq ?_)
      conv => rhs; rw [← List.map_id nss]
      refine List.map_congr_left fun ns hns => ?_
      obtain ⟨e, _⟩ := hB ns hns
      match ns, e with
      | [x, y], _ => rfl
    · refine List.pairwise_map.mpr (pw.imp_of_mem fun {x y} hx hy hl => ?_)
      have bd : ∀ z ∈ L, TS.Bd B [z.2.1, z.2.2] := fun z hz => by
        obtain ⟨ns, hns, e⟩ := List.mem_map.mp (pm.mem_iff.mp (List.mem_map_of_mem (f := (·.2)) hz))
        obtain ⟨e1, e2⟩ := hB ns hns
        match ns, e1, e2, e with
        | [u, v], _, e2, e =>
          rw [← e]
          exact e2
      show TS.code B [x.2.1, x.2.2] ≤ TS.code B [y.2.1, y.2.2]
      have hl := SrtO.lexB_no.mp hl
      rcases Int.lt_or_le (TS.code B [y.2.1, y.2.2]) (TS.code B [x.2.1, x.2.2]) with c | c
      · rcases code_lex (bd y hy) (bd x hx) (Int.le_of_lt c) with k | ⟨k1, k2⟩
        · exact absurd (.inl k) hl
        · by_cases k3 : y.2.2 < x.2.2
          · exact absurd (.inr ⟨k1, k3⟩) hl
          · have k4 : y.2.2 = x.2.2 := by omega
            rw [k1, k4] at c
            exact absurd c (Int.lt_irrefl _)
      · exact c
    · intro e he
      obtain ⟨z, hz, rfl⟩ := List.mem_map.mp he
      exact hL z hz
end
end L2

set_option Elab.async false
set_option maxRecDepth 100000
set_option maxHeartbeats 4000000
namespace L2
open PySem PySem.Spec PyProof.Rows
set_option linter.unusedVariables false
/-! o.m(k = v, ..), m a method of o's own class -/
def tMethK (C : Addr) (m : Str) (n : Nat) (sp : Sp) (gV : List V → List V → List V) (E : XK) (ta : TE) (tk : TA) : TE := fun σ H Q => ta σ H fun x H1 => ∃ a dx fs, x = .ref a ∧ H1 a = some (.ins C dx fs) ∧ fs.lookup m = none ∧ tk σ H1 fun zs H2 => zs.length = n ∧ sp (gV [x] zs) H2 Q E
section
variable {X : Cx} {CX : CXT} {k : Nat} {f C : Addr} {fd : FuncData} {ps ks : List Str} {sp : Sp} {E : XK} {m : Str} {o : Expr} {apos pos : Pos} {kws : List Keyword} {ta : TE} {tk : TA} {g : List Value → List Value → List Value} {gV : List V → List V → List V}
theorem pe_methK0 {pl : Sem Bool} (he : PE X o ta) (c : Cls X.K C) (hm : Meth X.K C m f) (F : FnOk X.prog X.w X.K X.mg X.base CX k f fd ps sp) (hr : Room k X.A) (hb : KBn X.K fd ps 1 ks g gV) (hx : Passes CX X E) (hkw : PK X kws tk)
    (ht : eval (.Call (.Attribute o m apos) [] kws pos) X.env = (do
      let ov ← eval o X.env
      standAt apos.atName
      let (f, first) ← holding [ov] (getMethod ov m pl)
      callWith pos f first (backTo pos (starEach [] X.env)) (backToKw pos (keywordEach kws X.env))) := by rfl)
    (hall : (backToKw pos (keywordEach kws X.env)).all (·.1.isSome) = true := by rfl) (hks : (backToKw pos (keywordEach kws X.env)).filterMap (·.1) = ks := by rfl)
    (hpl : ((backTo pos (starEach [] X.env)).any (·.1) || (backToKw pos (keywordEach kws X.env)).any (·.1.isNone)) = false := by rfl) :
    PE X (.Call (.Attribute o m apos) [] kws pos) (tMethK C m ks.length sp gV E ta tk) := by
  refine ⟨fun pins s σ H Q I h => ?_⟩
  refine PySem.W.methodCall_KW (pl := pl) (thn (he.run pins s σ H _ I h) fun u s1 ⟨x, H1, I1, rx, a, dx, fs, ex, ea, l, q⟩ => ?_) ht
  subst ex
  obtain rfl : u = Value.ref a := rx
  refine getmeth_ok I1 ea c hm l ?_
  refine PySem.W.callWith_KW0 (first := [.ref a]) (h₀ := X.base) I.ok.mod.kin hm.kp hall ?_ hpl
  refine thn (hkw.run pos pins s1 σ H1 _ I1 q) fun ws s2 ⟨zs, H2, I2, rz, l2, q2⟩ => ⟨I2.kIn, ?_⟩
  rw [hks]
  exact run_fnN (us := [.ref a]) (vs := [.ref a]) F hr hb hx I2 (.cons rfl .nil) rz rfl l2 q2
end
end L2

set_option Elab.async false
set_option maxRecDepth 100000
set_option maxHeartbeats 4000000
namespace TA
open PySem L2 PyProof.Rows
set_option linter.unusedVariables false
def top (i : Nat) : Stmt := PySem.Challenge.pw_twoalone_k04_tasks_and_boxes_by_names.main.body.getD i (.Pass ⟨0, 0, 0, 0⟩)
abbrev sWhole : Stmt := top 2
abbrev sWithin : Stmt := top 3
abbrev sHand : Stmt := top 4
abbrev s_is_rising : Stmt := top 5
abbrev s_AloneError : Stmt := top 7
abbrev s_NoTask : Stmt := top 8
abbrev s_NoHand : Stmt := top 9
abbrev s_NoJoint : Stmt := top 10
abbrev s_NoInputs : Stmt := top 11
abbrev s_NoWeaving : Stmt := top 12
abbrev s_NoProtocol : Stmt := top 13
abbrev s_is_output : Stmt := top 18
abbrev s_is_outputs : Stmt := top 19
abbrev s_is_rows : Stmt := top 20
abbrev s_is_alone : Stmt := top 21
abbrev s_is_output_pair : Stmt := top 22
abbrev s_is_let : Stmt := top 23
abbrev s_is_input_pair : Stmt := top 24
abbrev s_each_comes : Stmt := top 25
abbrev s_is_both : Stmt := top 26
abbrev s_Task : Stmt := top 27
abbrev s_is_pair : Stmt := top 28
abbrev s_swapped : Stmt := top 29
abbrev s_greatest_output : Stmt := top 30
abbrev s_joint_output : Stmt := top 31
abbrev s_joint_rows : Stmt := top 32
abbrev s_joint_let : Stmt := top 33
abbrev s_joint : Stmt := top 34
abbrev s_near : Stmt := top 35
abbrev s_apart : Stmt := top 36
abbrev s_is_row : Stmt := top 38
abbrev s_is_chosen : Stmt := top 39
abbrev s_alone_fault : Stmt := top 40
abbrev s_is_answers : Stmt := top 44
abbrev s_is_boxed : Stmt := top 45
abbrev s_winner : Stmt := top 46
abbrev s_is_boxed_weaving : Stmt := top 47
abbrev s_tell_boxed : Stmt := top 48
abbrev s_is_answered : Stmt := top 49
abbrev s_at_odds : Stmt := top 50
abbrev s_answers_to : Stmt := top 51
abbrev s_boxed : Stmt := top 52
abbrev s_answers_fault : Stmt := top 53
abbrev s_boxed_fault : Stmt := top 54
abbrev s_is_boxed_bar : Stmt := top 55
abbrev s_boxed_bar_fault : Stmt := top 56
abbrev sCell : Stmt := top 58
abbrev s__law_digit : Stmt := top 59
abbrev s__law_house : Stmt := top 60
abbrev sLaw : Stmt := top 61
structure Def (P : Program) (w : World) (K : PySem.W.Frag) (mg : Str → Option Value) (base : Heap) (x : Str) (ps : List Str) (k : Nat) (sp : Sp) (f : Addr) (fd : FuncData) : Prop where
  G : FnOk P w K mg base CX0 k f fd ps sp
  b : Binds K fd ps []
  k : PySem.W.keepIn K (.ref f) = true
  m : mg x = some (.ref f)
def isN : PyData → Bool
  | .none => true
  | _ => false
structure Txt (K : PySem.W.Frag) (mg : Str → Option Value) : Prop where
  isi : mg "isinstance" = none
  int : mg "int" = none
  bool : mg "bool" = none
  len : mg "len" = none
  range : mg "range" = none
  list : mg "list" = none
  tuple : mg "tuple" = none
  all : mg "all" = none
  sum : mg "sum" = none
  min : mg "min" = none
theorem same_new {H : Hp} {p : Addr} (h : H p = none) (o : HO) : Same H (upd H p o) := fun b u q => by rw [upd_ne (ne_of_none q h)]; exact q

theorem iteT' {c : Bool} {A B : Prop} (e : c = true) (a : A) : if c = true then A else B := by rw [if_pos e]; exact a
theorem iteF' {c : Bool} {A B : Prop} (e : c = false) (b : B) : if c = true then A else B := by rw [e]; exact b
theorem join2 {b : Bool} {X : Prop} {R : L2.St → Hp → Prop} {σ : L2.St} {H : Hp} (Iv : L2.St → Hp → Prop) (h0 : Iv σ H) (k : ∀ σ Hc, Iv σ Hc → R σ Hc) (h1 : b = true → (∀ σ Hc, Iv σ Hc → R σ Hc) → X) : if b = true then X else R σ H := by
  cases b with
  | false => exact iteF (k σ H h0)
  | true => exact iteT (h1 rfl k)
/-! things of any kind, by their data -/
def tyN : PyData → String
  | .none => "NoneType"
  | .bool _ => "bool"
  | .int _ => "int"
  | .str _ => "str"
  | .list _ => "list"
  | .tuple _ => "tuple"
  | .dict _ => "dict"
theorem sqT_ty {K : PySem.W.Frag} {H : Hp} {a : Addr} {xs : List V} (h : SqT K H a xs) : TyX K H (.ref a) (.type "tuple") := by
  rcases h with h | ⟨o, its, n, h1, h2, _⟩
  · rcases h with h | ⟨o, h⟩
    · exact .base (.tup h)
    · exact .fTuple h
  · exact .kTuple h1 h2
theorem sqL_ty {K : PySem.W.Frag} {H : Hp} {a : Addr} {xs : List V} (h : SqL K H a xs) : TyX K H (.ref a) (.type "list") := by
  rcases h with h | ⟨o, its, n, h1, h2, _⟩
  · rcases h with h | ⟨o, h⟩
    · exact .base (.lst h)
    · exact .base (.frz h)
  · exact .kList h1 h2
theorem dp_ty {K : PySem.W.Frag} {H : Hp} {v : V} {d : PyData} (h : Dp K H v d) : TyX K H v (.type (tyN d)) := by
  cases h with
  | non => exact .base .non
  | bl b => exact .base (.bl b)
  | int i => exact .base (.int i)
  | str x => exact .base (.str x)
  | lst h _ => exact sqL_ty h
  | tup h _ => exact sqT_ty h
theorem dp_non {K : PySem.W.Frag} {H : Hp} {v : V} {d : PyData} (h : Dp K H v d) : decide (v = .non) = isN d := by
  cases h <;> rfl
def isWholeD : PyData → Bool
  | .int _ => true
  | _ => false
def isTupD : PyData → Bool
  | .tuple _ => true
  | _ => false
def within : PyData → Int → Int → Bool
  | .int n, lo, hi => decide (lo ≤ n ∧ n ≤ hi)
  | _, _, _ => false
theorem kit_int (d : PyData) {K : PySem.W.Frag} : ∃ b1 b2, PySem.W.kitOne K (.type (tyN d)) (.type "int") = some b1 ∧ PySem.W.kitOne K (.type (tyN d)) (.type "bool") = some b2 ∧ isWholeD d = (b1 && !b2) := by
  cases d with
  | none => exact ⟨false, false, kit_ty (a := "NoneType") (b := "int") (by decide +kernel), kit_ty (a := "NoneType") (b := "bool") (by decide +kernel), rfl⟩
  | bool b => exact ⟨true, true, kit_ty (a := "bool") (b := "int") (by decide +kernel), kit_ty (a := "bool") (b := "bool") (by decide +kernel), rfl⟩
  | int i => exact ⟨true, false, kit_ty (a := "int") (b := "int") (by decide +kernel), kit_ty (a := "int") (b := "bool") (by decide +kernel), rfl⟩
  | str s => exact ⟨false, false, kit_ty (a := "str") (b := "int") (by decide +kernel), kit_ty (a := "str") (b := "bool") (by decide +kernel), rfl⟩
  | list l => exact ⟨false, false, kit_ty (a := "list") (b := "int") (by decide +kernel), kit_ty (a := "list") (b := "bool") (by decide +kernel), rfl⟩
  | tuple l => exact ⟨false, false, kit_ty (a := "tuple") (b := "int") (by decide +kernel), kit_ty (a := "tuple") (b := "bool") (by decide +kernel), rfl⟩
  | dict l => exact ⟨false, false, kit_ty (a := "dict") (b := "int") (by decide +kernel), kit_ty (a := "dict") (b := "bool") (by decide +kernel), rfl⟩
theorem kit_tup (d : PyData) {K : PySem.W.Frag} : PySem.W.kitOne K (.type (tyN d)) (.type "tuple") = some (isTupD d) := by
  cases d with
  | none => exact (show PySem.W.kitOne K (.type "NoneType") (.type "tuple") = some false from kit_ty (a := "NoneType") (b := "tuple") (by decide +kernel))
  | bool b => exact (show PySem.W.kitOne K (.type "bool") (.type "tuple") = some false from kit_ty (a := "bool") (b := "tuple") (by decide +kernel))
  | int i => exact (show PySem.W.kitOne K (.type "int") (.type "tuple") = some false from kit_ty (a := "int") (b := "tuple") (by decide +kernel))
  | str s => exact (show PySem.W.kitOne K (.type "str") (.type "tuple") = some false from kit_ty (a := "str") (b := "tuple") (by decide +kernel))
  | list l => exact (show PySem.W.kitOne K (.type "list") (.type "tuple") = some false from kit_ty (a := "list") (b := "tuple") (by decide +kernel))
  | tuple l => exact (show PySem.W.kitOne K (.type "tuple") (.type "tuple") = some true from kit_ty (a := "tuple") (b := "tuple") (by decide +kernel))
  | dict l => exact (show PySem.W.kitOne K (.type "dict") (.type "tuple") = some false from kit_ty (a := "dict") (b := "tuple") (by decide +kernel))
theorem dp_tup {K : PySem.W.Frag} {H : Hp} {v : V} {ds : List PyData} (h : Dp K H v (.tuple ds)) : ∃ a xs, v = .ref a ∧ SqT K H a xs ∧ DpAll K H xs ds := by
  cases h with
  | tup h1 h2 => exact ⟨_, _, rfl, h1, h2⟩
theorem dpAll_len {K : PySem.W.Frag} {H : Hp} : ∀ {vs : List V} {ds : List PyData}, DpAll K H vs ds → vs.length = ds.length
  | _, _, .nil => rfl
  | _, _, .cons _ b => congrArg (· + 1) (dpAll_len b)
theorem rd_mono {H H' : Hp} (s : Same H H') {a : Addr} {o : HO} (h : Rd H a o) : Rd H' a o := by
  rcases h with h | ⟨ob, h⟩
  · exact .inl (s _ _ h)
  · exact .inr ⟨ob, s _ _ h⟩
theorem seqT_mono {K : PySem.W.Frag} {H H' : Hp} (s : Same H H') {a : Addr} {xs : List V} (h : SqT K H a xs) : SqT K H' a xs := by
  rcases h with h | h
  · exact .inl (rd_mono s h)
  · exact .inr h
mutual
theorem dp_mono {K : PySem.W.Frag} {H H' : Hp} (s : Same H H') : ∀ (d : PyData) (v : V), Dp K H v d → Dp K H' v d
  | .none, _, h => by cases h; exact .non
  | .bool b, _, h => by cases h; exact .bl b
  | .int i, _, h => by cases h; exact .int i
  | .str x, _, h => by cases h; exact .str x
  | .list ds, _, h => by
    cases h with
    | lst a b => exact .lst (s.seq a) (dpAll_mono s ds _ b)
  | .tuple ds, _, h => by
    cases h with
    | tup a b => exact .tup (seqT_mono s a) (dpAll_mono s ds _ b)
  | .dict _, _, h => by cases h
theorem dpAll_mono {K : PySem.W.Frag} {H H' : Hp} (s : Same H H') : ∀ (ds : List PyData) (vs : List V), DpAll K H vs ds → DpAll K H' vs ds
  | [], _, h => by cases h; exact .nil
  | d :: ds, _, h => by
    cases h with
    | cons a b => exact .cons (dp_mono s d _ a) (dpAll_mono s ds _ b)
end
def spWholeG (K : PySem.W.Frag) : Sp := fun vs H Q _ => ∃ (v : V) (d : PyData), vs = [v] ∧ Dp K H v d ∧ Q (.bl (isWholeD d)) H
def spWithinG (K : PySem.W.Frag) : Sp := fun vs H Q _ => ∃ (v : V) (d : PyData) (lo hi : Int), vs = [v, .int lo, .int hi] ∧ Dp K H v d ∧ Q (.bl (within d lo hi)) H
def spHandG (K : PySem.W.Frag) : Sp := fun vs H Q _ => ∃ (v : V) (d : PyData), vs = [v] ∧ Dp K H v d ∧ Q (.bl (within d 0 1)) H
/-! a walk of n turns, whatever is walked: the word Pv is kept from turn to turn -/
theorem turns {J : It} (n : Nat) {H0 : Hp} {Qd : Hp → Prop} {B : (Hp → Prop) → V → Hp → Prop} (Pv : Nat → Hp → Prop) (start : Pv 0 H0) (last : ∀ H, Pv n H → J.stop n H ∧ Qd H)
    (turn : ∀ i H, i < n → Pv i H → J.go i H ∧ ∀ x H', J.yld i H x H' → B (Pv (i + 1)) x H') :
    ∃ W : Nat → Nat → Hp → Prop, (∃ m, W 0 m H0) ∧ ∀ i m H, W i m H →
      (J.stop i H ∧ Qd H) ∨ (J.go i H ∧ ∃ Nx : Hp → Prop, (∀ H', Nx H' → ∃ m', m' < m ∧ W (i + 1) m' H') ∧ ∀ x H', J.yld i H x H' → B Nx x H') := by
  refine ⟨fun i m H => i + m = n ∧ Pv i H, ⟨n, by omega, start⟩, fun i m H h => ?_⟩
  obtain ⟨hm, word⟩ := h
  cases m with
  | zero =>
    have hin : i = n := by omega
    rw [hin] at word ⊢
    exact Or.inl (last H word)
  | succ m =>
    obtain ⟨go, step⟩ := turn i H (by omega) word
    exact Or.inr ⟨go, Pv (i + 1), fun H' w' => ⟨m, by omega, by omega, w'⟩, step⟩
theorem list_turns {K : PySem.W.Frag} {a : Addr} {xs : List V} {H0 : Hp} {Qd : Hp → Prop} {B : (Hp → Prop) → V → Hp → Prop} (Pv : Nat → Hp → Prop) (start : Pv 0 H0) (still : ∀ i H, i ≤ xs.length → Pv i H → SqL K H a xs)
    (turn : ∀ i x H, xs[i]? = some x → Pv i H → B (Pv (i + 1)) x H) (last : ∀ H, Pv xs.length H → Qd H) :
    ∃ W : Nat → Nat → Hp → Prop, (∃ m, W 0 m H0) ∧ ∀ i m H, W i m H →
      ((Itl K a).stop i H ∧ Qd H) ∨ ((Itl K a).go i H ∧ ∃ Nx : Hp → Prop, (∀ H', Nx H' → ∃ m', m' < m ∧ W (i + 1) m' H') ∧ ∀ x H', (Itl K a).yld i H x H' → B Nx x H') :=
  turns xs.length Pv start (fun H w => ⟨⟨xs, still _ H (Nat.le_refl _) w, Nat.le_refl _⟩, last H w⟩) fun i H hi w =>
    have there := still i H (Nat.le_of_lt hi) w
    ⟨⟨xs, xs[i], there, List.getElem?_eq_getElem hi⟩, fun x H' ⟨same, given⟩ => by rw [same]; exact turn i x H (given xs there) w⟩
theorem tup_turns {K : PySem.W.Frag} {a : Addr} {xs : List V} {H0 : Hp} {Qd : Hp → Prop} {B : (Hp → Prop) → V → Hp → Prop} (Pv : Nat → Hp → Prop) (start : Pv 0 H0) (still : ∀ i H, i ≤ xs.length → Pv i H → SqT K H a xs)
    (turn : ∀ i x H, xs[i]? = some x → Pv i H → B (Pv (i + 1)) x H) (last : ∀ H, Pv xs.length H → Qd H) :
    ∃ W : Nat → Nat → Hp → Prop, (∃ m, W 0 m H0) ∧ ∀ i m H, W i m H →
      ((Itt K a).stop i H ∧ Qd H) ∨ ((Itt K a).go i H ∧ ∃ Nx : Hp → Prop, (∀ H', Nx H' → ∃ m', m' < m ∧ W (i + 1) m' H') ∧ ∀ x H', (Itt K a).yld i H x H' → B Nx x H') :=
  turns xs.length Pv start (fun H w => ⟨⟨xs, still _ H (Nat.le_refl _) w, Nat.le_refl _⟩, last H w⟩) fun i H hi w =>
    have there := still i H (Nat.le_of_lt hi) w
    ⟨⟨xs, xs[i], there, List.getElem?_eq_getElem hi⟩, fun x H' ⟨same, given⟩ => by rw [same]; exact turn i x H (given xs there) w⟩
theorem range_turns {lo : Int} {n : Nat} {H0 : Hp} {Qd : Hp → Prop} {B : (Hp → Prop) → V → Hp → Prop} (Pv : Nat → Hp → Prop) (start : Pv 0 H0)
    (turn : ∀ i H, i < n → Pv i H → B (Pv (i + 1)) (.int (lo + i)) H) (last : ∀ H, Pv n H → Qd H) :
    ∃ W : Nat → Nat → Hp → Prop, (∃ m, W 0 m H0) ∧ ∀ i m H, W i m H →
      ((Itr lo n).stop i H ∧ Qd H) ∨ ((Itr lo n).go i H ∧ ∃ Nx : Hp → Prop, (∀ H', Nx H' → ∃ m', m' < m ∧ W (i + 1) m' H') ∧ ∀ x H', (Itr lo n).yld i H x H' → B Nx x H') :=
  turns n Pv start (fun H w => ⟨Nat.le_refl _, last H w⟩) fun i H hi w => ⟨hi, fun x H' ⟨same, given⟩ => by rw [same, given]; exact turn i H hi w⟩
theorem small13 {n : Nat} (h : n ≤ 100000) : n ≤ sizeLine := Nat.le_trans h (by decide)

section
variable {P : Program} {w : World} {K : PySem.W.Frag} {mg : Str → Option Value} {base : Heap}
theorem scWhole : FnScope ["thing"] ["thing"] (defScope sWhole) := ⟨rfl, rfl, rfl, by decide +kernel, rfl, by decide +kernel, by decide +kernel⟩
theorem scWithin : FnScope ["thing", "least", "most"] ["thing", "least", "most"] (defScope sWithin) := ⟨rfl, rfl, rfl, by decide +kernel, rfl, by decide +kernel, by decide +kernel⟩
theorem scHand : FnScope ["thing"] ["thing"] (defScope sHand) := ⟨rfl, rfl, rfl, by decide +kernel, rfl, by decide +kernel, by decide +kernel⟩
theorem ok_wholeG {f : Addr} {fd : FuncData} (F : Fun K "is_whole" "is_whole" sWhole f fd) (T : Txt K mg) : FnOk P w K mg base CX0 1 f fd ["thing"] (spWholeG K) := by
  refine F.ok scWhole (fun vs H Q E h => ?_) (fun cdv A outer s H vs Q E hr h => ?_)
  · obtain ⟨v, d, rfl, _⟩ := h
    rfl
  obtain ⟨v, d, rfl, hk, q⟩ := h
  refine ⟨_, pss_one (ps_ret (pe_and (pe_callB call_isi (by rfl) T.isi boot_isinstance (pa_cons (pv 0) (pa_cons (pe_bltn (v := .ty "int") (by rfl) T.int boot_int rfl) pa_nil)))
    (pe_one (pe_not (pe_callB call_isi (by rfl) T.isi boot_isinstance (pa_cons (pv 0) (pa_cons (pe_bltn (v := .ty "bool") (by rfl) T.bool boot_bool rfl) pa_nil))))))), ?_⟩
  obtain ⟨b1, b2, e1, e2, e3⟩ := kit_int d (K := K)
  rw [e3] at q
  refine ⟨_, rfl, v, V.ty "int", _, _, b1, rfl, .ty "int", (dp_ty hk), e1, b1, rfl, ?_⟩
  cases b1 with
  | false => exact iteF q
  | true => exact iteT ⟨_, rfl, v, V.ty "bool", _, _, b2, rfl, .ty "bool", (dp_ty hk), e2, b2, rfl, q⟩
theorem ok_withinG {f g : Addr} {fd gd : FuncData} (F : Fun K "is_whole_within" "is_whole_within" sWithin f fd) (W : Def P w K mg base "is_whole" ["thing"] 1 (spWholeG K) g gd) : FnOk P w K mg base CX0 2 f fd ["thing", "least", "most"] (spWithinG K) := by
  refine F.ok scWithin (fun vs H Q E h => ?_) (fun cdv A outer s H vs Q E hr h => ?_)
  · obtain ⟨v, d, lo, hi, rfl, _⟩ := h
    rfl
  obtain ⟨v, d, lo, hi, rfl, hk, q⟩ := h
  refine ⟨_, pss_one (ps_ret (pe_and (pe_call W.G hr rfl W.m W.k W.b .nil pass0 (pa_cons (pv 0) pa_nil)) (pe_one (pe_chain op_le op_le (pv 1) (pv 0) (pv 2))))), ?_⟩
  refine ⟨_, rfl, v, d, rfl, hk, isWholeD d, rfl, ?_⟩
  by_cases hw : ∃ n, d = .int n
  · obtain ⟨n, rfl⟩ := hw
    have ev : v = .int n := by
      cases hk; rfl
    subst ev
    refine iteT ⟨_, rfl, _, rfl, _, _, rfl, rfl, _, rfl, ?_⟩
    by_cases h1 : lo ≤ n
    · rw [decide_eq_true h1]
      refine iteT ⟨_, rfl, _, _, rfl, rfl, ?_⟩
      have e : within (.int n) lo hi = decide (n ≤ hi) := by unfold within; simp [h1]
      rw [e] at q
      exact q
    · rw [decide_eq_false h1]
      refine iteF ?_
      have e : within (.int n) lo hi = false := by unfold within; simp [h1]
      rw [e] at q
      exact q
  · have e1 : isWholeD d = false := by
      cases d with
      | int n => exact absurd ⟨n, rfl⟩ hw
      | _ => rfl
    have e2 : within d lo hi = false := by
      cases d with
      | int n => exact absurd ⟨n, rfl⟩ hw
      | _ => rfl
    rw [e1]
    rw [e2] at q
    exact iteF q
theorem ok_handG {f g : Addr} {fd gd : FuncData} (F : Fun K "is_hand" "is_hand" sHand f fd) (W : Def P w K mg base "is_whole_within" ["thing", "least", "most"] 2 (spWithinG K) g gd) : FnOk P w K mg base CX0 3 f fd ["thing"] (spHandG K) := by
  refine F.ok scHand (fun vs H Q E h => ?_) (fun cdv A outer s H vs Q E hr h => ?_)
  · obtain ⟨v, d, rfl, _⟩ := h
    rfl
  obtain ⟨v, d, rfl, hk, q⟩ := h
  refine ⟨_, pss_one (ps_ret (pe_call W.G hr rfl W.m W.k W.b .nil pass0 (pa_cons (pv 0) (pa_cons pe_int (pa_cons pe_int pa_nil))))), ?_⟩
  exact ⟨_, rfl, v, d, 0, 1, rfl, hk, q⟩
end
end TA

set_option Elab.async false
set_option maxRecDepth 100000
set_option maxHeartbeats 4000000
namespace TA
open PySem L2 PyProof.Rows
set_option linter.unusedVariables false
/-! a task's parts, of any data -/
theorem dpAll_get {K : PySem.W.Frag} {H : Hp} : ∀ {vs : List V} {ds : List PyData} {i : Nat} {x : V}, DpAll K H vs ds → vs[i]? = some x → ∃ d, ds[i]? = some d ∧ Dp K H x d
  | _, _, _, _, .nil, e => by simp at e
  | _, _, 0, _, .cons a b, e => ⟨_, rfl, by simp at e; rw [← e]; exact a⟩
  | _, _, i + 1, x, .cons a b, e => by
    obtain ⟨d, h1, h2⟩ := dpAll_get (i := i) (x := x) b (by simpa using e)
    exact ⟨d, by simpa using h1, h2⟩
theorem same_upd {H0 H : Hp} {p : Addr} {o : HO} (s : Same H0 H) (f : H0 p = none) : Same H0 (upd H p o) := fun b u e => by
  rw [upd_ne (ne_of_none e f)]
  exact s _ _ e
theorem take_bl (bs : List Bool) {i : Nat} {b : Bool} (h : bs[i]? = some b) : (bs.take i).map V.bl ++ [V.bl b] = (bs.take (i + 1)).map V.bl := by
  rw [List.take_add_one, h, List.map_append]
  rfl
def isLstD : PyData → Bool
  | .list _ => true
  | _ => false
theorem kit_lst (d : PyData) {K : PySem.W.Frag} : PySem.W.kitOne K (.type (tyN d)) (.type "list") = some (isLstD d) := by
  cases d with
  | none => exact (show PySem.W.kitOne K (.type "NoneType") (.type "list") = some false from kit_ty (by decide +kernel))
  | bool b => exact (show PySem.W.kitOne K (.type "bool") (.type "list") = some false from kit_ty (by decide +kernel))
  | int b => exact (show PySem.W.kitOne K (.type "int") (.type "list") = some false from kit_ty (by decide +kernel))
  | str b => exact (show PySem.W.kitOne K (.type "str") (.type "list") = some false from kit_ty (by decide +kernel))
  | list b => exact (show PySem.W.kitOne K (.type "list") (.type "list") = some true from kit_ty (by decide +kernel))
  | tuple b => exact (show PySem.W.kitOne K (.type "tuple") (.type "list") = some false from kit_ty (by decide +kernel))
  | dict b => exact (show PySem.W.kitOne K (.type "dict") (.type "list") = some false from kit_ty (by decide +kernel))
/-- what stands in a list of ints, one behind the other -/
def risI (ns : List Int) : Bool := ((List.range (ns.length - 1)).map fun i => decide (ns.getD i 0 < ns.getD (i + 1) 0)).all id
def intsOf : List PyData → List Int := List.map fun d => match d with
  | .int i => i
  | _ => 0
def outB (d : PyData) : Bool := within d 0 63
def outsB : PyData → Bool
  | .list ds => decide (0 < ds.length) && ((ds.map outB).all id && risI (intsOf ds))
  | _ => false
def rowsB : PyData → Bool
  | .list ds => decide (0 < ds.length) && (ds.map outsB).all id
  | _ => false
def aloneB : PyData → Bool
  | .list ds => decide (ds.length = 2) && (ds.map rowsB).all id
  | _ => false
theorem outs_ints {K : PySem.W.Frag} {H : Hp} : ∀ {ds : List PyData} {vs : List V}, DpAll K H vs ds → (ds.map outB).all id = true → vs = (intsOf ds).map V.int
  | [], _, h, _ => by cases h; rfl
  | d :: ds, _, h, a => by
    rw [List.map_cons, List.all_cons] at a
    obtain ⟨a1, a2⟩ := Bool.and_eq_true_iff.mp a
    cases h with
    | cons h1 h2 =>
      cases d with
      | int i =>
        cases h1
        rw [outs_ints h2 a2]
        rfl
      | _ => exact Bool.noConfusion (show false = true from a1)
def spOut (K : PySem.W.Frag) : Sp := fun vs H Q _ => ∃ (v : V) (d : PyData), vs = [v] ∧ Dp K H v d ∧ Q (.bl (outB d)) H
def spRisI (K : PySem.W.Frag) : Sp := fun vs H Q _ => ∃ (p : Addr) (ns : List Int), vs = [.ref p] ∧ SqL K H p (ns.map V.int) ∧ 1 ≤ ns.length ∧ ns.length ≤ 1000 ∧ ∀ H', Same H H' → Q (.bl (risI ns)) H'
def small (d : PyData) : Prop := ∀ ds, d = .list ds → ds.length ≤ 1000
def spOuts (K : PySem.W.Frag) : Sp := fun vs H Q _ => ∃ (v : V) (d : PyData), vs = [v] ∧ Dp K H v d ∧ small d ∧ ∀ H', Same H H' → Q (.bl (outsB d)) H'
def spRows (K : PySem.W.Frag) : Sp := fun vs H Q _ => ∃ (v : V) (d : PyData), vs = [v] ∧ Dp K H v d ∧ small d ∧ (∀ ds, d = .list ds → ∀ e ∈ ds, small e) ∧ ∀ H', Same H H' → Q (.bl (rowsB d)) H'
def spAlone (K : PySem.W.Frag) : Sp := fun vs H Q _ => ∃ (v : V) (d : PyData), vs = [v] ∧ Dp K H v d ∧ small d ∧ (∀ ds, d = .list ds → ∀ e ∈ ds, small e ∧ ∀ es, e = .list es → ∀ g ∈ es, small g) ∧ ∀ H', Same H H' → Q (.bl (aloneB d)) H'
section
variable {P : Program} {w : World} {K : PySem.W.Frag} {mg : Str → Option Value} {base : Heap}
theorem scOut : FnScope ["thing"] ["thing"] (defScope s_is_output) := ⟨rfl, rfl, rfl, by decide +kernel, rfl, by decide +kernel, by decide +kernel⟩
theorem ok_out {f g : Addr} {fd gd : FuncData} {t63 : Tok} (F : Fun K "is_output" "is_output" s_is_output f fd) (m63 : mg "MOST_OUTPUT" = some (.int 63 t63)) (W : Def P w K mg base "is_whole_within" ["thing", "least", "most"] 2 (spWithinG K) g gd) : FnOk P w K mg base CX0 3 f fd ["thing"] (spOut K) := by
  refine F.ok scOut (fun vs H Q E h => ?_) (fun cdv A outer s H vs Q E hr h => ?_)
  · obtain ⟨v, d, rfl, _⟩ := h
    rfl
  obtain ⟨v, d, rfl, hk, q⟩ := h
  refine ⟨_, pss_one (ps_ret (pe_call W.G hr rfl W.m W.k W.b .nil pass0 (pa_cons (pv 0) (pa_cons pe_int (pa_cons (pe_glob (v := .int 63) rfl m63 ⟨_, rfl⟩) pa_nil))))), ?_⟩
  exact ⟨_, rfl, v, d, 0, 63, rfl, hk, q⟩
theorem scRis : FnScope ["things", "at"] ["things"] (defScope s_is_rising) := ⟨rfl, rfl, rfl, by decide +kernel, rfl, by decide +kernel, by decide +kernel⟩
theorem ok_risI {f : Addr} {fd : FuncData} (F : Fun K "is_rising" "is_rising" s_is_rising f fd) (T : Txt K mg) : FnOk P w K mg base CX0 1 f fd ["things"] (spRisI K) := by
  refine F.ok scRis (fun vs H Q E h => ?_) (fun cdv A outer s H vs Q E hr h => ?_)
  · obtain ⟨p, ns, rfl, _⟩ := h
    rfl
  obtain ⟨p, ns, rfl, hS, n1, n2, q⟩ := h
  have nd := scRis.nd
  refine ⟨_, pss_one (ps_ret (pe_callB (cr_all rfl) (by rfl) T.all (by decide +kernel) (pa_cons
      (pe_lc (own := [("at", 1)]) (g := gName 1) (tt := tYes) (te := tOp (rI0 fun i j => .bl (decide (i < j))) (tOp (rIxL K) (tVar 0) (tVar 1)) (tOp (rIxL K) (tVar 0) (tOp (rI0 fun i j => .int (i + j)) (tVar 1) (tC (.int 1))))) rfl nd
        (pi_range1 (by rfl) T.range (pa_cons (pe_op op_sub (pe_callB call_len_seq (by rfl) T.len PySem.boot_len (pa_cons (pv 0) pa_nil)) pe_int) pa_nil))
        (blkOk_by (N := ["things", "at"]) (sc := defScope s_is_rising) (by decide +kernel)) (fun _ _ _ _ _ => pg_name (i := 1) nd rfl (Or.inl rfl)) (fun _ _ _ _ _ => pts_nil)
        (fun _ _ _ _ _ => (by refine pe_cmpR op_lt ?_ ?_ (nomark _); (exact pe_ix ix_list (pv 0) (pv 1) (fun _ _ => rfl)); (exact pe_ix ix_list (pv 0) (pe_op op_add (pv 1) pe_int) (fun _ _ => rfl))))) pa_nil))), ?_⟩
  refine ⟨_, rfl, p, _, rfl, .inl hS, _, _, rfl, rfl, ?_⟩
  rw [List.length_map]
  have e1 : ((ns.length : Nat) : Int) - 1 = ((ns.length - 1 : Nat) : Int) := by omega
  refine ⟨((ns.length - 1 : Nat) : Int), congrArg (fun z => [V.int z]) e1, by omega, by omega, fun D hD => ?_⟩
  refine range_turns (n := ns.length - 1) (fun i H' => Same H H' ∧ H' D = some (.lst ((((List.range (ns.length - 1)).map fun i => decide (ns.getD i 0 < ns.getD (i + 1) 0)).take i).map V.bl))) ⟨same_new hD _, upd_same⟩ ?_ ?_
  · rintro i H' hi ⟨s1, h1⟩
    have ei : (0 : Int) + (i : Int) = (i : Int) := by omega
    rw [ei]
    have g0 : ns[i]? = some (ns.getD i 0) := by rw [List.getD_eq_getElem?_getD, List.getElem?_eq_getElem (by omega)]; rfl
    have g1 : ns[i + 1]? = some (ns.getD (i + 1) 0) := by rw [List.getD_eq_getElem?_getD, List.getElem?_eq_getElem (by omega)]; rfl
    have hb : ((List.range (ns.length - 1)).map fun i => decide (ns.getD i 0 < ns.getD (i + 1) 0))[i]? = some (decide (ns.getD i 0 < ns.getD (i + 1) 0)) := by
      rw [List.getElem?_map, List.getElem?_range hi]; rfl
    refine ⟨rfl, _, rfl, _, rfl, p, _, _, _, rfl, rfl, s1.seq hS, atI_nat (by rw [List.getElem?_map, g0]; rfl), _, rfl, _, rfl, _, _, rfl, rfl, p, _, _, _, rfl, rfl, s1.seq hS, (by rw [show (i : Int) + 1 = ((i + 1 : Nat) : Int) by omega]; exact atI_nat (by rw [List.getElem?_map, g1]; rfl)), _, _, rfl, rfl, _, h1, ?_, same_upd s1 hD, by rw [upd_same, take_bl _ hb]⟩
    rw [List.length_map]
    exact Nat.lt_of_le_of_lt (List.length_take_le _ _) (Nat.lt_of_lt_of_le hi (Nat.le_trans (by omega) (show 1000 ≤ sizeLine by decide)))
  · rintro H' ⟨s1, h1⟩
    rw [List.take_of_length_le (by rw [List.length_map, List.length_range]; exact Nat.le_refl _)] at h1
    exact ⟨D, _, rfl, SqL.of h1, q _ s1⟩
theorem scOuts : FnScope ["thing", "x"] ["thing"] (defScope s_is_outputs) := ⟨rfl, rfl, rfl, by decide +kernel, rfl, by decide +kernel, by decide +kernel⟩
theorem ok_outs {f g1 g2 : Addr} {fd d1 d2 : FuncData} (F : Fun K "is_outputs" "is_outputs" s_is_outputs f fd) (T : Txt K mg) (W : Def P w K mg base "is_output" ["thing"] 3 (spOut K) g1 d1) (R : Def P w K mg base "is_rising" ["things"] 1 (spRisI K) g2 d2) : FnOk P w K mg base CX0 4 f fd ["thing"] (spOuts K) := by
  refine F.ok scOuts (fun vs H Q E h => ?_) (fun cdv A outer s H vs Q E hr h => ?_)
  · obtain ⟨v, d, rfl, _⟩ := h
    rfl
  obtain ⟨v, d, rfl, hk, hz, q⟩ := h
  have nd := scOuts.nd
  refine ⟨_, pss_one (ps_ret (pe_and (pe_callB call_isi (by rfl) T.isi boot_isinstance (pa_cons (pv 0) (pa_cons (pe_bltn (v := .ty "list") (by rfl) T.list boot_list rfl) pa_nil)))
    (pe_and (pe_cmpR op_gt (pe_callB call_len_seq (by rfl) T.len PySem.boot_len (pa_cons (pv 0) pa_nil)) pe_int (nomark _))
    (pe_and (pe_callB (cr_all rfl) (by rfl) T.all (by decide +kernel) (pa_cons
      (pe_lc (own := [("x", 1)]) (g := gName 1) (tt := tYes) (te := tCall (spOut K) [] E0 (tCons (tVar 1) tNil)) rfl nd (pi_list (pv 0)) (blkOk_by (N := ["thing", "x"]) (sc := defScope s_is_outputs) (by decide +kernel)) (fun _ _ _ _ _ => pg_name (i := 1) nd rfl (Or.inl rfl)) (fun _ _ _ _ _ => pts_nil)
        (fun _ _ _ _ _ => (by exact pe_call W.G hr rfl W.m W.k W.b .nil pass0 (pa_cons (pv 1) pa_nil)))) pa_nil))
    (pe_one (pe_call R.G (hr.mono (by decide)) rfl R.m R.k R.b .nil pass0 (pa_cons (pv 0) pa_nil))))))), ?_⟩
  refine ⟨_, rfl, v, .ty "list", _, _, isLstD d, rfl, .ty "list", dp_ty hk, kit_lst d, _, rfl, ?_⟩
  cases cl : isLstD d with
  | false =>
    have : outsB d = false := by cases d <;> first | rfl | cases cl
    rw [this] at q
    exact iteF (q _ (Same.refl H))
  | true =>
    obtain ⟨ds, rfl⟩ : ∃ ds, d = .list ds := by cases d <;> first | exact ⟨_, rfl⟩ | cases cl
    obtain ⟨p, vs, rfl, hS, hD⟩ : ∃ t vs, v = .ref t ∧ SqL K H t vs ∧ DpAll K H vs ds := by
      cases hk with
      | lst a b => exact ⟨_, _, rfl, a, b⟩
    have hl := dpAll_len hD
    have hds := hz ds rfl
    have eO : outsB (.list ds) = (decide (0 < ds.length) && ((ds.map outB).all id && risI (intsOf ds))) := rfl
    refine iteT ⟨_, rfl, p, _, rfl, .inl hS, _, _, rfl, rfl, ?_⟩
    by_cases c : 0 < ds.length
    case neg =>
      rw [eO, decide_eq_false c, Bool.false_and] at q
      refine ⟨_, rfl, iteF' (decide_eq_false (by omega)) ?_⟩
      exact q _ (Same.refl H)
    rw [eO, decide_eq_true c, Bool.true_and] at q
    refine ⟨_, rfl, iteT' (decide_eq_true (by omega)) ?_⟩
    refine ⟨_, rfl, p, rfl, ⟨_, hS⟩, fun D hD' => ?_⟩
    refine list_turns (xs := vs) (fun i H' => Same H H' ∧ H' D = some (.lst (((ds.map outB).take i).map V.bl))) ⟨same_new hD' _, upd_same⟩ (fun i H' _ h => h.1.seq hS) ?_ ?_
    · rintro i x H' hx ⟨s1, h1⟩
      obtain ⟨di, hdi, hxi⟩ := dpAll_get hD hx
      have hi : i < ds.length := (List.getElem?_eq_some_iff.mp hdi).1
      have hb : (ds.map outB)[i]? = some (outB di) := by rw [List.getElem?_map, hdi]; rfl
      refine ⟨rfl, _, rfl, x, di, rfl, dp_mono s1 _ _ hxi, _, h1, ?_, same_upd s1 hD', by rw [upd_same, take_bl _ hb]⟩
      rw [List.length_map]
      exact Nat.lt_of_le_of_lt (List.length_take_le _ _) (Nat.lt_of_lt_of_le hi (Nat.le_trans hds (by decide)))
    · rintro H1 ⟨s1, h1⟩
      rw [hl, ← List.length_map (f := outB), List.take_length] at h1
      refine ⟨D, _, rfl, SqL.of h1, _, rfl, ?_⟩
      cases ca : (ds.map outB).all id with
      | false =>
        rw [ca, Bool.false_and] at q
        exact iteF (q _ s1)
      | true =>
        rw [ca, Bool.true_and] at q
        have ev := outs_ints hD ca
        have hS' : SqL K H1 p ((intsOf ds).map V.int) := by rw [← ev]; exact s1.seq hS
        have li : (intsOf ds).length = ds.length := List.length_map _
        exact iteT ⟨_, rfl, p, intsOf ds, rfl, hS', by omega, by omega, fun H2 s2 => q _ (s1.trans s2)⟩
theorem sc_rows : FnScope ["thing", "outputs"] ["thing"] (defScope s_is_rows) := ⟨rfl, rfl, rfl, by decide +kernel, rfl, by decide +kernel, by decide +kernel⟩
theorem ok_rows {f g1 : Addr} {fd d1 : FuncData} (F : Fun K "is_rows" "is_rows" s_is_rows f fd) (T : Txt K mg) (W : Def P w K mg base "is_outputs" ["thing"] 4 (spOuts K) g1 d1) : FnOk P w K mg base CX0 5 f fd ["thing"] (spRows K) := by
  refine F.ok sc_rows (fun vs H Q E h => ?_) (fun cdv A outer s H vs Q E hr h => ?_)
  · obtain ⟨v, d, rfl, _⟩ := h
    rfl
  obtain ⟨v, d, rfl, hk, hz, hin, q⟩ := h
  have nd := sc_rows.nd
  refine ⟨_, pss_one (ps_ret (pe_and (pe_callB call_isi (by rfl) T.isi boot_isinstance (pa_cons (pv 0) (pa_cons (pe_bltn (v := .ty "list") (by rfl) T.list boot_list rfl) pa_nil)))
    (pe_and (pe_cmpR op_gt (pe_callB call_len_seq (by rfl) T.len PySem.boot_len (pa_cons (pv 0) pa_nil)) pe_int (nomark _))
    (pe_one (pe_callB (cr_all rfl) (by rfl) T.all (by decide +kernel) (pa_cons
      (pe_lc (own := [("outputs", 1)]) (g := gName 1) (tt := tYes) (te := tCall (spOuts K) [] E0 (tCons (tVar 1) tNil)) rfl nd (pi_list (pv 0)) (blkOk_by (N := ["thing", "outputs"]) (sc := defScope s_is_rows) (by decide +kernel)) (fun _ _ _ _ _ => pg_name (i := 1) nd rfl (Or.inl rfl)) (fun _ _ _ _ _ => pts_nil)
        (fun _ _ _ _ _ => (by exact pe_call W.G hr rfl W.m W.k W.b .nil pass0 (pa_cons (pv 1) pa_nil)))) pa_nil)))))), ?_⟩
  refine ⟨_, rfl, v, .ty "list", _, _, isLstD d, rfl, .ty "list", dp_ty hk, kit_lst d, _, rfl, ?_⟩
  cases cl : isLstD d with
  | false =>
    have : rowsB d = false := by cases d <;> first | rfl | cases cl
    rw [this] at q
    exact iteF (q _ (Same.refl H))
  | true =>
    obtain ⟨ds, rfl⟩ : ∃ ds, d = .list ds := by cases d <;> first | exact ⟨_, rfl⟩ | cases cl
    obtain ⟨p, vs, rfl, hS, hD⟩ : ∃ t vs, v = .ref t ∧ SqL K H t vs ∧ DpAll K H vs ds := by
      cases hk with
      | lst a b => exact ⟨_, _, rfl, a, b⟩
    have hl := dpAll_len hD
    have hds := hz ds rfl
    have eO : rowsB (.list ds) = (decide (0 < ds.length) && (ds.map outsB).all id) := rfl
    refine iteT ⟨_, rfl, p, _, rfl, .inl hS, _, _, rfl, rfl, ?_⟩
    by_cases c : 0 < ds.length
    case neg =>
      rw [eO, decide_eq_false c, Bool.false_and] at q
      refine ⟨_, rfl, iteF' (decide_eq_false (by omega)) ?_⟩
      exact q _ (Same.refl H)
    rw [eO, decide_eq_true c, Bool.true_and] at q
    refine ⟨_, rfl, iteT' (decide_eq_true (by omega)) ?_⟩
    refine ⟨_, rfl, p, rfl, ⟨_, hS⟩, fun D hD' => ?_⟩
    refine list_turns (xs := vs) (fun i H' => Same H H' ∧ H' D = some (.lst (((ds.map outsB).take i).map V.bl))) ⟨same_new hD' _, upd_same⟩ (fun i H' _ h => h.1.seq hS) ?_ ?_
    · rintro i x H' hx ⟨s1, h1⟩
      obtain ⟨di, hdi, hxi⟩ := dpAll_get hD hx
      have hi : i < ds.length := (List.getElem?_eq_some_iff.mp hdi).1
      have hb : (ds.map outsB)[i]? = some (outsB di) := by rw [List.getElem?_map, hdi]; rfl
      refine ⟨rfl, _, rfl, x, di, rfl, dp_mono s1 _ _ hxi, hin ds rfl di (List.mem_of_getElem? hdi), fun H2 s2 => ⟨_, s2 _ _ h1, ?_, same_upd (s1.trans s2) hD', by rw [upd_same, take_bl _ hb]⟩⟩
      rw [List.length_map]
      exact Nat.lt_of_le_of_lt (List.length_take_le _ _) (Nat.lt_of_lt_of_le hi (Nat.le_trans hds (by decide)))
    · rintro H1 ⟨s1, h1⟩
      rw [hl, ← List.length_map (f := outsB), List.take_length] at h1
      exact ⟨D, _, rfl, SqL.of h1, q _ s1⟩
theorem sc_alone : FnScope ["thing", "rows"] ["thing"] (defScope s_is_alone) := ⟨rfl, rfl, rfl, by decide +kernel, rfl, by decide +kernel, by decide +kernel⟩
theorem ok_alone {f g1 : Addr} {fd d1 : FuncData} (F : Fun K "is_alone" "is_alone" s_is_alone f fd) (T : Txt K mg) (W : Def P w K mg base "is_rows" ["thing"] 5 (spRows K) g1 d1) : FnOk P w K mg base CX0 6 f fd ["thing"] (spAlone K) := by
  refine F.ok sc_alone (fun vs H Q E h => ?_) (fun cdv A outer s H vs Q E hr h => ?_)
  · obtain ⟨v, d, rfl, _⟩ := h
    rfl
  obtain ⟨v, d, rfl, hk, hz, hin, q⟩ := h
  have nd := sc_alone.nd
  refine ⟨_, pss_one (ps_ret (pe_and (pe_callB call_isi (by rfl) T.isi boot_isinstance (pa_cons (pv 0) (pa_cons (pe_bltn (v := .ty "list") (by rfl) T.list boot_list rfl) pa_nil)))
    (pe_and (pe_cmpR op_eq (pe_callB call_len_seq (by rfl) T.len PySem.boot_len (pa_cons (pv 0) pa_nil)) pe_int (nomark _))
    (pe_one (pe_callB (cr_all rfl) (by rfl) T.all (by decide +kernel) (pa_cons
      (pe_lc (own := [("rows", 1)]) (g := gName 1) (tt := tYes) (te := tCall (spRows K) [] E0 (tCons (tVar 1) tNil)) rfl nd (pi_list (pv 0)) (blkOk_by (N := ["thing", "rows"]) (sc := defScope s_is_alone) (by decide +kernel)) (fun _ _ _ _ _ => pg_name (i := 1) nd rfl (Or.inl rfl)) (fun _ _ _ _ _ => pts_nil)
        (fun _ _ _ _ _ => (by exact pe_call W.G hr rfl W.m W.k W.b .nil pass0 (pa_cons (pv 1) pa_nil)))) pa_nil)))))), ?_⟩
  refine ⟨_, rfl, v, .ty "list", _, _, isLstD d, rfl, .ty "list", dp_ty hk, kit_lst d, _, rfl, ?_⟩
  cases cl : isLstD d with
  | false =>
    have : aloneB d = false := by cases d <;> first | rfl | cases cl
    rw [this] at q
    exact iteF (q _ (Same.refl H))
  | true =>
    obtain ⟨ds, rfl⟩ : ∃ ds, d = .list ds := by cases d <;> first | exact ⟨_, rfl⟩ | cases cl
    obtain ⟨p, vs, rfl, hS, hD⟩ : ∃ t vs, v = .ref t ∧ SqL K H t vs ∧ DpAll K H vs ds := by
      cases hk with
      | lst a b => exact ⟨_, _, rfl, a, b⟩
    have hl := dpAll_len hD
    have hds := hz ds rfl
    have eO : aloneB (.list ds) = (decide (ds.length = 2) && (ds.map rowsB).all id) := rfl
    refine iteT ⟨_, rfl, p, _, rfl, .inl hS, rfl, _, rfl, ?_⟩
    by_cases c : ds.length = 2
    case neg =>
      rw [eO, decide_eq_false c, Bool.false_and] at q
      refine iteF' (decide_eq_false fun e => by injection e with e; omega) ?_
      exact q _ (Same.refl H)
    rw [eO, decide_eq_true c, Bool.true_and] at q
    refine iteT' (decide_eq_true (by rw [hl, c]; rfl)) ?_
    refine ⟨_, rfl, p, rfl, ⟨_, hS⟩, fun D hD' => ?_⟩
    refine list_turns (xs := vs) (fun i H' => Same H H' ∧ H' D = some (.lst (((ds.map rowsB).take i).map V.bl))) ⟨same_new hD' _, upd_same⟩ (fun i H' _ h => h.1.seq hS) ?_ ?_
    · rintro i x H' hx ⟨s1, h1⟩
      obtain ⟨di, hdi, hxi⟩ := dpAll_get hD hx
      have hi : i < ds.length := (List.getElem?_eq_some_iff.mp hdi).1
      have hb : (ds.map rowsB)[i]? = some (rowsB di) := by rw [List.getElem?_map, hdi]; rfl
      refine ⟨rfl, _, rfl, x, di, rfl, dp_mono s1 _ _ hxi, (hin ds rfl di (List.mem_of_getElem? hdi)).1, (hin ds rfl di (List.mem_of_getElem? hdi)).2, fun H2 s2 => ⟨_, s2 _ _ h1, ?_, same_upd (s1.trans s2) hD', by rw [upd_same, take_bl _ hb]⟩⟩
      rw [List.length_map]
      exact Nat.lt_of_le_of_lt (List.length_take_le _ _) (Nat.lt_of_lt_of_le hi (Nat.le_trans hds (by decide)))
    · rintro H1 ⟨s1, h1⟩
      rw [hl, ← List.length_map (f := rowsB), List.take_length] at h1
      exact ⟨D, _, rfl, SqL.of h1, q _ s1⟩
end
end TA

set_option Elab.async false
set_option maxRecDepth 100000
set_option maxHeartbeats 4000000
namespace TA
open PySem L2 PyProof.Rows
set_option linter.unusedVariables false
def pairB : PyData → Bool
  | .tuple ds => decide (ds.length = 2) && (ds.map outB).all id
  | _ => false
def pairOf : PyData → List Int
  | .tuple ds => intsOf ds
  | _ => []
def risP (ps : List (List Int)) : Bool := ((List.range (ps.length - 1)).map fun i => HT.lexLt (ps.getD i []) (ps.getD (i + 1) [])).all id
def letB : PyData → Bool
  | .list ds => decide (0 < ds.length) && ((ds.map pairB).all id && risP (ds.map pairOf))
  | _ => false
def spPairB (K : PySem.W.Frag) : Sp := fun vs H Q _ => ∃ (v : V) (d : PyData), vs = [v] ∧ Dp K H v d ∧ ∀ H', Same H H' → Q (.bl (pairB d)) H'
/-- pairs of ints stand at these places -/
def PairsAt (K : PySem.W.Frag) (H : Hp) (xs : List V) (ps : List (List Int)) : Prop := xs.length = ps.length ∧ ∀ i : Nat, i < ps.length → ∃ a, xs[i]? = some (.ref a) ∧ SqT K H a ((ps.getD i []).map V.int)
def spRisP (K : PySem.W.Frag) : Sp := fun vs H Q _ => ∃ (p : Addr) (xs : List V) (ps : List (List Int)), vs = [.ref p] ∧ SqL K H p xs ∧ PairsAt K H xs ps ∧ 1 ≤ ps.length ∧ ps.length ≤ 1000 ∧ ∀ H', Same H H' → Q (.bl (risP ps)) H'
def spLetB (K : PySem.W.Frag) : Sp := fun vs H Q _ => ∃ (v : V) (d : PyData), vs = [v] ∧ Dp K H v d ∧ small d ∧ ∀ H', Same H H' → Q (.bl (letB d)) H'
theorem pairs_at {K : PySem.W.Frag} {H : Hp} {ds : List PyData} {vs : List V} (h : DpAll K H vs ds) (a : (ds.map pairB).all id = true) : PairsAt K H vs (ds.map pairOf) := by
  refine ⟨by rw [List.length_map]; exact dpAll_len h, fun i hi => ?_⟩
  rw [List.length_map] at hi
  have hl := dpAll_len h
  obtain ⟨d, hd, hx⟩ := dpAll_get h (List.getElem?_eq_getElem (show i < vs.length by omega))
  have hb : pairB d = true := by
    have := List.all_eq_true.mp a (pairB d) (List.mem_map.mpr ⟨d, List.mem_of_getElem? hd, rfl⟩)
    exact this
  cases d with
  | tuple es =>
    obtain ⟨_, b2⟩ := Bool.and_eq_true_iff.mp (show (decide (es.length = 2) && (es.map outB).all id) = true from hb)
    obtain ⟨t, xs, ex, ht, hes⟩ := dp_tup hx
    refine ⟨t, by rw [List.getElem?_eq_getElem (show i < vs.length by omega), ex], ?_⟩
    have e : (ds.map pairOf).getD i [] = intsOf es := by
      rw [List.getD_eq_getElem?_getD, List.getElem?_map, hd]; rfl
    rw [e, ← outs_ints hes b2]
    exact ht
  | _ => cases hb
section
variable {P : Program} {w : World} {K : PySem.W.Frag} {mg : Str → Option Value} {base : Heap}
theorem sc_outpair : FnScope ["thing", "x"] ["thing"] (defScope s_is_output_pair) := ⟨rfl, rfl, rfl, by decide +kernel, rfl, by decide +kernel, by decide +kernel⟩
theorem ok_outpair {f g1 : Addr} {fd d1 : FuncData} (F : Fun K "is_output_pair" "is_output_pair" s_is_output_pair f fd) (T : Txt K mg) (W : Def P w K mg base "is_output" ["thing"] 3 (spOut K) g1 d1) : FnOk P w K mg base CX0 4 f fd ["thing"] (spPairB K) := by
  refine F.ok sc_outpair (fun vs H Q E h => ?_) (fun cdv A outer s H vs Q E hr h => ?_)
  · obtain ⟨v, d, rfl, _⟩ := h
    rfl
  obtain ⟨v, d, rfl, hk, q⟩ := h
  have nd := sc_outpair.nd
  refine ⟨_, pss_one (ps_ret (pe_and (pe_callB call_isi (by rfl) T.isi boot_isinstance (pa_cons (pv 0) (pa_cons (pe_bltn (v := .ty "tuple") (by rfl) T.tuple boot_tuple rfl) pa_nil)))
    (pe_and (pe_cmpR op_eq (pe_callB call_len_seq (by rfl) T.len PySem.boot_len (pa_cons (pv 0) pa_nil)) pe_int (nomark _))
    (pe_one (pe_callB (cr_all rfl) (by rfl) T.all (by decide +kernel) (pa_cons
      (pe_lc (own := [("x", 1)]) (g := gName 1) (tt := tYes) (te := tCall (spOut K) [] E0 (tCons (tVar 1) tNil)) rfl nd (pi_tup (pv 0)) (blkOk_by (N := ["thing", "x"]) (sc := defScope s_is_output_pair) (by decide +kernel)) (fun _ _ _ _ _ => pg_name (i := 1) nd rfl (Or.inl rfl)) (fun _ _ _ _ _ => pts_nil)
        (fun _ _ _ _ _ => (by exact pe_call W.G hr rfl W.m W.k W.b .nil pass0 (pa_cons (pv 1) pa_nil)))) pa_nil)))))), ?_⟩
  refine ⟨_, rfl, v, .ty "tuple", _, _, isTupD d, rfl, .ty "tuple", dp_ty hk, kit_tup d, _, rfl, ?_⟩
  cases cl : isTupD d with
  | false =>
    have : pairB d = false := by cases d <;> first | rfl | cases cl
    rw [this] at q
    exact iteF (q _ (Same.refl H))
  | true =>
    obtain ⟨ds, rfl⟩ : ∃ ds, d = .tuple ds := by cases d <;> first | exact ⟨_, rfl⟩ | cases cl
    obtain ⟨p, vs, rfl, hS, hD⟩ := dp_tup hk
    have hl := dpAll_len hD
    have eO : pairB (.tuple ds) = (decide (ds.length = 2) && (ds.map outB).all id) := rfl
    refine iteT ⟨_, rfl, p, _, rfl, .inr hS, rfl, _, rfl, ?_⟩
    by_cases c : ds.length = 2
    case neg =>
      rw [eO, decide_eq_false c, Bool.false_and] at q
      refine iteF' (decide_eq_false fun e => by injection e with e; omega) ?_
      exact q _ (Same.refl H)
    rw [eO, decide_eq_true c, Bool.true_and] at q
    refine iteT' (decide_eq_true (by rw [hl, c]; rfl)) ?_
    refine ⟨_, rfl, p, rfl, ⟨_, hS⟩, fun D hD' => ?_⟩
    refine tup_turns (xs := vs) (fun i H' => Same H H' ∧ H' D = some (.lst (((ds.map outB).take i).map V.bl))) ⟨same_new hD' _, upd_same⟩ (fun i H' _ h => seqT_mono h.1 hS) ?_ ?_
    · rintro i x H' hx ⟨s1, h1⟩
      obtain ⟨di, hdi, hxi⟩ := dpAll_get hD hx
      have hi : i < ds.length := (List.getElem?_eq_some_iff.mp hdi).1
      have hb : (ds.map outB)[i]? = some (outB di) := by rw [List.getElem?_map, hdi]; rfl
      refine ⟨rfl, _, rfl, x, di, rfl, dp_mono s1 _ _ hxi, _, h1, ?_, same_upd s1 hD', by rw [upd_same, take_bl _ hb]⟩
      rw [List.length_map]
      exact Nat.lt_of_le_of_lt (List.length_take_le _ _) (Nat.lt_of_lt_of_le hi (by rw [c]; decide))
    · rintro H1 ⟨s1, h1⟩
      rw [hl, ← List.length_map (f := outB), List.take_length] at h1
      exact ⟨D, _, rfl, SqL.of h1, q _ s1⟩
theorem ok_risP {f : Addr} {fd : FuncData} (F : Fun K "is_rising" "is_rising" s_is_rising f fd) (T : Txt K mg) : FnOk P w K mg base CX0 1 f fd ["things"] (spRisP K) := by
  refine F.ok scRis (fun vs H Q E h => ?_) (fun cdv A outer s H vs Q E hr h => ?_)
  · obtain ⟨p, xs, ps, rfl, _⟩ := h
    rfl
  obtain ⟨p, xs, ps, rfl, hS, ⟨hl, hp⟩, n1, n2, q⟩ := h
  have nd := scRis.nd
  refine ⟨_, pss_one (ps_ret (pe_callB (cr_all rfl) (by rfl) T.all (by decide +kernel) (pa_cons
      (pe_lc (own := [("at", 1)]) (g := gName 1) (tt := tYes) (te := tOp (rLtT K) (tOp (rIxL K) (tVar 0) (tVar 1)) (tOp (rIxL K) (tVar 0) (tOp (rI0 fun i j => .int (i + j)) (tVar 1) (tC (.int 1))))) rfl nd
        (pi_range1 (by rfl) T.range (pa_cons (pe_op op_sub (pe_callB call_len_seq (by rfl) T.len PySem.boot_len (pa_cons (pv 0) pa_nil)) pe_int) pa_nil))
        (blkOk_by (N := ["things", "at"]) (sc := defScope s_is_rising) (by decide +kernel)) (fun _ _ _ _ _ => pg_name (i := 1) nd rfl (Or.inl rfl)) (fun _ _ _ _ _ => pts_nil)
        (fun _ _ _ _ _ => (by refine pe_cmpR (op_ltT ?_) ?_ ?_ (nomark _); (have := hr.un; show (A.deeper (envOfC "is_rising" (defScope s_is_rising) s.heap.objs.size f cdv)).units < cLine; omega); (exact pe_ix ix_list (pv 0) (pv 1) (fun _ _ => rfl)); (exact pe_ix ix_list (pv 0) (pe_op op_add (pv 1) pe_int) (fun _ _ => rfl))))) pa_nil))), ?_⟩
  refine ⟨_, rfl, p, _, rfl, .inl hS, _, _, rfl, rfl, ?_⟩
  rw [hl]
  have e1 : ((ps.length : Nat) : Int) - 1 = ((ps.length - 1 : Nat) : Int) := by omega
  refine ⟨((ps.length - 1 : Nat) : Int), congrArg (fun z => [V.int z]) e1, by omega, by omega, fun D hD => ?_⟩
  refine range_turns (n := ps.length - 1) (fun i H' => Same H H' ∧ H' D = some (.lst ((((List.range (ps.length - 1)).map fun i => HT.lexLt (ps.getD i []) (ps.getD (i + 1) [])).take i).map V.bl))) ⟨same_new hD _, upd_same⟩ ?_ ?_
  · rintro i H' hi ⟨s1, h1⟩
    have ei : (0 : Int) + (i : Int) = (i : Int) := by omega
    rw [ei]
    obtain ⟨a0, g0, t0⟩ := hp i (by omega)
    obtain ⟨a1, g1, t1⟩ := hp (i + 1) (by omega)
    have hb : ((List.range (ps.length - 1)).map fun i => HT.lexLt (ps.getD i []) (ps.getD (i + 1) []))[i]? = some (HT.lexLt (ps.getD i []) (ps.getD (i + 1) [])) := by
      rw [List.getElem?_map, List.getElem?_range hi]; rfl
    refine ⟨rfl, _, rfl, _, rfl, p, _, _, _, rfl, rfl, s1.seq hS, atI_nat g0, _, rfl, _, rfl, _, _, rfl, rfl, p, _, _, _, rfl, rfl, s1.seq hS, (by rw [show (i : Int) + 1 = ((i + 1 : Nat) : Int) by omega]; exact atI_nat g1), a0, a1, _, _, rfl, rfl, seqT_mono s1 t0, seqT_mono s1 t1, _, h1, ?_, same_upd s1 hD, by rw [upd_same, take_bl _ hb]⟩
    rw [List.length_map]
    exact Nat.lt_of_le_of_lt (List.length_take_le _ _) (Nat.lt_of_lt_of_le hi (Nat.le_trans (by omega) (show 1000 ≤ sizeLine by decide)))
  · rintro H' ⟨s1, h1⟩
    rw [List.take_of_length_le (by rw [List.length_map, List.length_range]; exact Nat.le_refl _)] at h1
    exact ⟨D, _, rfl, SqL.of h1, q _ s1⟩
end
end TA

set_option Elab.async false
set_option maxRecDepth 100000
set_option maxHeartbeats 4000000
namespace TA
open PySem L2 PyProof.Rows
set_option linter.unusedVariables false
section
variable {P : Program} {w : World} {K : PySem.W.Frag} {mg : Str → Option Value} {base : Heap}
theorem sc_let : FnScope ["thing", "x"] ["thing"] (defScope s_is_let) := ⟨rfl, rfl, rfl, by decide +kernel, rfl, by decide +kernel, by decide +kernel⟩
theorem ok_let {f g1 g2 : Addr} {fd d1 d2 : FuncData} (F : Fun K "is_let" "is_let" s_is_let f fd) (T : Txt K mg) (W : Def P w K mg base "is_output_pair" ["thing"] 4 (spPairB K) g1 d1) (R : Def P w K mg base "is_rising" ["things"] 1 (spRisP K) g2 d2) : FnOk P w K mg base CX0 5 f fd ["thing"] (spLetB K) := by
  refine F.ok sc_let (fun vs H Q E h => ?_) (fun cdv A outer s H vs Q E hr h => ?_)
  · obtain ⟨v, d, rfl, _⟩ := h
    rfl
  obtain ⟨v, d, rfl, hk, hz, q⟩ := h
  have nd := sc_let.nd
  refine ⟨_, pss_one (ps_ret (pe_and (pe_callB call_isi (by rfl) T.isi boot_isinstance (pa_cons (pv 0) (pa_cons (pe_bltn (v := .ty "list") (by rfl) T.list boot_list rfl) pa_nil)))
    (pe_and (pe_cmpR op_gt (pe_callB call_len_seq (by rfl) T.len PySem.boot_len (pa_cons (pv 0) pa_nil)) pe_int (nomark _))
    (pe_and (pe_callB (cr_all rfl) (by rfl) T.all (by decide +kernel) (pa_cons
      (pe_lc (own := [("x", 1)]) (g := gName 1) (tt := tYes) (te := tCall (spPairB K) [] E0 (tCons (tVar 1) tNil)) rfl nd (pi_list (pv 0)) (blkOk_by (N := ["thing", "x"]) (sc := defScope s_is_let) (by decide +kernel)) (fun _ _ _ _ _ => pg_name (i := 1) nd rfl (Or.inl rfl)) (fun _ _ _ _ _ => pts_nil)
        (fun _ _ _ _ _ => (by exact pe_call W.G hr rfl W.m W.k W.b .nil pass0 (pa_cons (pv 1) pa_nil)))) pa_nil))
    (pe_one (pe_call R.G (hr.mono (by decide)) rfl R.m R.k R.b .nil pass0 (pa_cons (pv 0) pa_nil))))))), ?_⟩
  refine ⟨_, rfl, v, .ty "list", _, _, isLstD d, rfl, .ty "list", dp_ty hk, kit_lst d, _, rfl, ?_⟩
  cases cl : isLstD d with
  | false =>
    have : letB d = false := by cases d <;> first | rfl | cases cl
    rw [this] at q
    exact iteF (q _ (Same.refl H))
  | true =>
    obtain ⟨ds, rfl⟩ : ∃ ds, d = .list ds := by cases d <;> first | exact ⟨_, rfl⟩ | cases cl
    obtain ⟨p, vs, rfl, hS, hD⟩ : ∃ t vs, v = .ref t ∧ SqL K H t vs ∧ DpAll K H vs ds := by
      cases hk with
      | lst a b => exact ⟨_, _, rfl, a, b⟩
    have hl := dpAll_len hD
    have hds := hz ds rfl
    have eO : letB (.list ds) = (decide (0 < ds.length) && ((ds.map pairB).all id && risP (ds.map pairOf))) := rfl
    refine iteT ⟨_, rfl, p, _, rfl, .inl hS, _, _, rfl, rfl, ?_⟩
    by_cases c : 0 < ds.length
    case neg =>
      rw [eO, decide_eq_false c, Bool.false_and] at q
      refine ⟨_, rfl, iteF' (decide_eq_false (by omega)) ?_⟩
      exact q _ (Same.refl H)
    rw [eO, decide_eq_true c, Bool.true_and] at q
    refine ⟨_, rfl, iteT' (decide_eq_true (by omega)) ?_⟩
    refine ⟨_, rfl, p, rfl, ⟨_, hS⟩, fun D hD' => ?_⟩
    refine list_turns (xs := vs) (fun i H' => Same H H' ∧ H' D = some (.lst (((ds.map pairB).take i).map V.bl))) ⟨same_new hD' _, upd_same⟩ (fun i H' _ h => h.1.seq hS) ?_ ?_
    · rintro i x H' hx ⟨s1, h1⟩
      obtain ⟨di, hdi, hxi⟩ := dpAll_get hD hx
      have hi : i < ds.length := (List.getElem?_eq_some_iff.mp hdi).1
      have hb : (ds.map pairB)[i]? = some (pairB di) := by rw [List.getElem?_map, hdi]; rfl
      refine ⟨rfl, _, rfl, x, di, rfl, dp_mono s1 _ _ hxi, fun H2 s2 => ⟨_, s2 _ _ h1, ?_, same_upd (s1.trans s2) hD', by rw [upd_same, take_bl _ hb]⟩⟩
      rw [List.length_map]
      exact Nat.lt_of_le_of_lt (List.length_take_le _ _) (Nat.lt_of_lt_of_le hi (Nat.le_trans hds (by decide)))
    · rintro H1 ⟨s1, h1⟩
      rw [hl, ← List.length_map (f := pairB), List.take_length] at h1
      refine ⟨D, _, rfl, SqL.of h1, _, rfl, ?_⟩
      cases ca : (ds.map pairB).all id with
      | false =>
        rw [ca, Bool.false_and] at q
        exact iteF (q _ s1)
      | true =>
        rw [ca, Bool.true_and] at q
        have hp := pairs_at (dpAll_mono s1 _ _ hD) ca
        have li : (ds.map pairOf).length = ds.length := List.length_map _
        exact iteT ⟨_, rfl, p, vs, ds.map pairOf, rfl, s1.seq hS, hp, by omega, by omega, fun H2 s2 => q _ (s1.trans s2)⟩
end
end TA

set_option Elab.async false
set_option maxRecDepth 100000
set_option maxHeartbeats 4000000
namespace TA
open PySem L2 PyProof.Rows
set_option linter.unusedVariables false
/-- a pair of inputs, so many of each hand -/
def inB (n0 n1 : Nat) : PyData → Bool
  | .tuple [x, y] => within x 0 ((n0 : Int) - 1) && within y 0 ((n1 : Int) - 1)
  | _ => false
theorem inB_no {n0 n1 : Nat} {d : PyData} (h : ∀ x y, d ≠ .tuple [x, y]) : inB n0 n1 d = false := by
  match d, h with
  | .tuple [x, y], h => exact absurd rfl (h x y)
  | .tuple [], _ | .tuple [_], _ | .tuple (_ :: _ :: _ :: _), _ | .none, _ | .bool _, _ | .int _, _ | .str _, _ | .list _, _ | .dict _, _ => rfl
theorem tup_cases (d : PyData) : (∃ x y, d = .tuple [x, y]) ∨ (∀ x y, d ≠ .tuple [x, y]) := by
  match d with
  | .tuple [x, y] => exact .inl ⟨x, y, rfl⟩
  | .tuple [] | .tuple [_] | .tuple (_ :: _ :: _ :: _) | .none | .bool _ | .int _ | .str _ | .list _ | .dict _ => exact .inr (fun x y e => by cases e)
theorem dp_pair {K : PySem.W.Frag} {H : Hp} {v : V} {d : PyData} (h : Dp K H v d) : (∃ a x y e f, v = .ref a ∧ d = .tuple [e, f] ∧ SqT K H a [x, y] ∧ Dp K H x e ∧ Dp K H y f) ∨ ((∀ x y, d ≠ .tuple [x, y]) ∧ (isTupD d = false ∨ (isTupD d = true ∧ ∃ a xs, v = .ref a ∧ SqT K H a xs ∧ xs.length ≠ 2))) := by
  rcases tup_cases d with ⟨e, f, rfl⟩ | hn
  · left
    obtain ⟨a, xs, rfl, hs, ha⟩ := dp_tup h
    cases ha with
    | cons h1 h2 =>
      cases h2 with
      | cons h2 h3 =>
        cases h3
        exact ⟨_, _, _, _, _, rfl, rfl, hs, h1, h2⟩
  · right
    refine ⟨hn, ?_⟩
    cases h with
    | @tup a xs ds h1 h2 =>
      refine .inr ⟨rfl, a, xs, rfl, h1, fun e => ?_⟩
      have el := dpAll_len h2
      rw [e] at el
      match ds, el, hn with
      | [x, y], _, hn => exact hn x y rfl
    | _ => exact .inl rfl
/-- the outputs let alone, as two lists of rows -/
structure AloneAt (K : PySem.W.Frag) (H : Hp) (al : Addr) (n0 n1 : Nat) : Prop where
  ex : ∃ (r0 r1 : Addr) (xs0 xs1 : List V), SqL K H al [.ref r0, .ref r1] ∧ SqL K H r0 xs0 ∧ SqL K H r1 xs1 ∧ xs0.length = n0 ∧ xs1.length = n1
theorem AloneAt.mono {K : PySem.W.Frag} {H H' : Hp} {al : Addr} {n0 n1 : Nat} (s : Same H H') (h : AloneAt K H al n0 n1) : AloneAt K H' al n0 n1 := by
  obtain ⟨r0, r1, xs0, xs1, a, b, c, d⟩ := h.ex
  exact ⟨r0, r1, xs0, xs1, s.seq a, s.seq b, s.seq c, d⟩
def spInp (K : PySem.W.Frag) : Sp := fun vs H Q _ => ∃ (v : V) (d : PyData) (al : Addr) (n0 n1 : Nat), vs = [v, .ref al] ∧ Dp K H v d ∧ AloneAt K H al n0 n1 ∧ ∀ H', Same H H' → Q (.bl (inB n0 n1 d)) H'
structure TxtH (K : PySem.W.Frag) (mg : Str → Option Value) : Prop where
  hands : ∃ hA, mg "HANDS" = some (.ref hA) ∧ ∀ H, SqT K H hA [.int 0, .int 1]
section
variable {P : Program} {w : World} {K : PySem.W.Frag} {mg : Str → Option Value} {base : Heap}
abbrev nInp : List Str := ["thing", "alone", "hand"]
theorem sc_inp : FnScope nInp ["thing", "alone"] (defScope s_is_input_pair) := ⟨rfl, rfl, rfl, by decide +kernel, rfl, by decide +kernel, by decide +kernel⟩
theorem ok_inp {f g1 : Addr} {fd d1 : FuncData} (F : Fun K "is_input_pair" "is_input_pair" s_is_input_pair f fd) (T : Txt K mg) (U : TxtH K mg) (W : Def P w K mg base "is_whole_within" ["thing", "least", "most"] 2 (spWithinG K) g1 d1) : FnOk P w K mg base CX0 3 f fd ["thing", "alone"] (spInp K) := by
  refine F.ok sc_inp (fun vs H Q E h => ?_) (fun cdv A outer s H vs Q E hr h => ?_)
  · obtain ⟨v, d, al, n0, n1, rfl, _⟩ := h
    rfl
  obtain ⟨v, d, al, n0, n1, rfl, hk, hA, q⟩ := h
  obtain ⟨hT, mH, hH⟩ := U.hands
  have nd := sc_inp.nd
  refine ⟨_, pss_one (ps_ret (pe_and (pe_callB call_isi (by rfl) T.isi boot_isinstance (pa_cons (pv 0) (pa_cons (pe_bltn (v := .ty "tuple") (by rfl) T.tuple boot_tuple rfl) pa_nil)))
    (pe_and (pe_cmpR op_eq (pe_callB call_len_seq (by rfl) T.len PySem.boot_len (pa_cons (pv 0) pa_nil)) pe_int (nomark _))
    (pe_one (pe_callB (cr_all rfl) (by rfl) T.all (by decide +kernel) (pa_cons
      (pe_lc (own := [("hand", 2)]) (g := gName 2) (tt := tYes) (te := tCall (spWithinG K) [] E0 (tCons (tOp (rIxT K) (tVar 0) (tVar 2)) (tCons (tC (.int 0)) (tCons (tOp (rI0 fun i j => .int (i - j)) (tCB (fun xs H Q => ∃ p ys, xs = [.ref p] ∧ (SqL K H p ys ∨ SqT K H p ys) ∧ Q (.int ys.length) H) (tCons (tOp (rIxL K) (tVar 1) (tVar 2)) tNil)) (tC (.int 1))) tNil)))) rfl nd
        (pi_tup (pe_glob (v := .ref hT) rfl mH rfl)) (blkOk_by (N := nInp) (sc := defScope s_is_input_pair) (by decide +kernel)) (fun _ _ _ _ _ => pg_name (i := 2) nd rfl (Or.inl rfl)) (fun _ _ _ _ _ => pts_nil)
        (fun _ _ _ _ _ => (by refine pe_call W.G hr rfl W.m W.k W.b .nil pass0 (pa_cons ?_ (pa_cons pe_int (pa_cons (pe_op op_sub ?_ pe_int) pa_nil))); (exact pe_ix ix_tup (pv 0) (pv 2) (fun _ _ => rfl)); (refine pe_callB call_len_seq (by rfl) T.len PySem.boot_len (pa_cons ?_ pa_nil); (exact pe_ix ix_list (pv 1) (pv 2) (fun _ _ => rfl)))))) pa_nil)))))), ?_⟩
  rcases dp_pair hk with ⟨a, x, y, e, g, rfl, rfl, ha, hx, hy⟩ | ⟨hn, c2 | ⟨c2, a, xs, rfl, ha, hl⟩⟩
  case inr.inl =>
    rw [inB_no hn] at q
    exact ⟨_, rfl, v, V.ty "tuple", _, _, false, rfl, .ty "tuple", dp_ty hk, (by rw [kit_tup, c2]), _, rfl, iteF (q _ (Same.refl H))⟩
  case inr.inr =>
    rw [inB_no hn] at q
    refine ⟨_, rfl, V.ref a, V.ty "tuple", _, _, true, rfl, .ty "tuple", dp_ty hk, (by rw [kit_tup, c2]), _, rfl, iteT ?_⟩
    refine ⟨_, rfl, a, _, rfl, .inr ha, rfl, _, rfl, iteF' (decide_eq_false fun e => hl (by injection e with e; omega)) ?_⟩
    exact q _ (Same.refl H)
  refine ⟨_, rfl, V.ref a, V.ty "tuple", _, _, true, rfl, .ty "tuple", dp_ty hk, kit_tup _, _, rfl, iteT ?_⟩
  refine ⟨_, rfl, a, _, rfl, .inr ha, rfl, _, rfl, iteT ?_⟩
  obtain ⟨r0, r1, xs0, xs1, k1, k2, k3, rfl, rfl⟩ := hA.ex
  refine ⟨hT, rfl, ⟨_, hH H⟩, fun D hD => ?_⟩
  refine tup_turns (xs := [V.int 0, V.int 1]) (fun i H' => Same H H' ∧ H' D = some (.lst (([within e 0 ((xs0.length : Int) - 1), within g 0 ((xs1.length : Int) - 1)].take i).map V.bl))) ⟨same_new hD _, upd_same⟩ (fun i H' _ _ => hH H') ?_ ?_
  · rintro i z H' hz ⟨s1, h1⟩
    rcases i with _ | _ | i
    · obtain rfl : z = .int 0 := by simpa using hz.symm
      exact ⟨rfl, _, rfl, _, rfl, a, _, _, _, rfl, rfl, seqT_mono s1 ha, (by rfl), _, rfl, _, rfl, al, _, _, _, rfl, rfl, s1.seq k1, (by rfl), r0, _, rfl, .inl (s1.seq k2), _, _, rfl, rfl, x, e, 0, _, rfl, dp_mono s1 _ _ hx, _, h1, (by show 0 < sizeLine; decide), same_upd s1 hD, by rw [upd_same]; rfl⟩
    · obtain rfl : z = .int 1 := by simpa using hz.symm
      exact ⟨rfl, _, rfl, _, rfl, a, _, _, _, rfl, rfl, seqT_mono s1 ha, (by rfl), _, rfl, _, rfl, al, _, _, _, rfl, rfl, s1.seq k1, (by rfl), r1, _, rfl, .inl (s1.seq k3), _, _, rfl, rfl, y, g, 0, _, rfl, dp_mono s1 _ _ hy, _, h1, (by show 1 < sizeLine; decide), same_upd s1 hD, by rw [upd_same]; rfl⟩
    · simp at hz
  · rintro H' ⟨s1, h1⟩
    refine ⟨D, _, rfl, SqL.of h1, ?_⟩
    have z := q _ s1
    have e2 : inB xs0.length xs1.length (.tuple [e, g]) = (within e 0 ((xs0.length : Int) - 1) && within g 0 ((xs1.length : Int) - 1)) := rfl
    rw [e2] at z
    show Q (.bl (_ && (_ && true))) H'
    rw [Bool.and_true]
    exact z
end
end TA

set_option Elab.async false
set_option maxRecDepth 100000
set_option maxHeartbeats 4000000
namespace TA
open PySem L2 PyProof.Rows
set_option linter.unusedVariables false
/-! a task's things in the heap -/
inductive A2 {α β : Type} (R : α → β → Prop) : List α → List β → Prop
  | nil : A2 R [] []
  | cons {x y xs ys} : R x y → A2 R xs ys → A2 R (x :: xs) (y :: ys)
theorem A2.len {α β : Type} {R : α → β → Prop} : ∀ {xs : List α} {ys : List β}, A2 R xs ys → xs.length = ys.length
  | _, _, .nil => rfl
  | _, _, .cons _ b => congrArg (· + 1) b.len
theorem A2.imp {α β : Type} {R S : α → β → Prop} (f : ∀ x y, R x y → S x y) : ∀ {xs : List α} {ys : List β}, A2 R xs ys → A2 S xs ys
  | _, _, .nil => .nil
  | _, _, .cons a b => .cons (f _ _ a) (b.imp f)
theorem A2.get {α β : Type} {R : α → β → Prop} : ∀ {xs : List α} {ys : List β} {i : Nat} {x : α}, A2 R xs ys → xs[i]? = some x → ∃ y, ys[i]? = some y ∧ R x y
  | _, _, i, _, .nil, e => by simp at e
  | _, _, 0, _, .cons a _, e => ⟨_, rfl, by simp at e; rw [← e]; exact a⟩
  | _, _, i + 1, x, .cons _ b, e => by
    obtain ⟨y, h1, h2⟩ := A2.get (i := i) (x := x) b (by simpa using e)
    exact ⟨y, by simpa using h1, h2⟩
theorem A2.at {α β : Type} {R : α → β → Prop} {xs : List α} {ys : List β} {i : Nat} {y : β} (h : A2 R xs ys) (e : ys[i]? = some y) : ∃ x, xs[i]? = some x ∧ R x y := by
  have hi : i < xs.length := by rw [h.len]; exact (List.getElem?_eq_some_iff.mp e).1
  obtain ⟨y', h1, h2⟩ := h.get (List.getElem?_eq_getElem hi)
  rw [e] at h1
  cases h1
  exact ⟨_, List.getElem?_eq_getElem hi, h2⟩
theorem A2.snoc {α β : Type} {R : α → β → Prop} : ∀ {xs : List α} {ys : List β} {x : α} {y : β}, A2 R xs ys → R x y → A2 R (xs ++ [x]) (ys ++ [y])
  | _, _, _, _, .nil, h => .cons h .nil
  | _, _, _, _, .cons a b, h => .cons a (b.snoc h)
theorem A2.mem {α β : Type} {R : α → β → Prop} {xs : List α} {ys : List β} {x : α} (h : A2 R xs ys) (m : x ∈ xs) : ∃ y, y ∈ ys ∧ R x y := by
  obtain ⟨i, e⟩ := List.getElem?_of_mem m
  obtain ⟨y, e2, r⟩ := h.get e
  exact ⟨y, List.mem_of_getElem? e2, r⟩
theorem A2.ofMap {α β γ : Type} {R : α → β → Prop} (f : γ → α) (g : γ → β) : ∀ (zs : List γ), (∀ z ∈ zs, R (f z) (g z)) → A2 R (zs.map f) (zs.map g)
  | [], _ => .nil
  | z :: zs, h => .cons (h z List.mem_cons_self) (A2.ofMap f g zs fun x m => h x (List.mem_cons_of_mem _ m))
/-- a pair of ints, a list of ints, rows of these, what is let alone, pairs let -/
def TpAt (H : Hp) (v : V) (p : Int × Int) : Prop := ∃ t, v = .ref t ∧ H t = some (.tup [.int p.1, .int p.2])
def RowAt (H : Hp) (v : V) (row : List Int) : Prop := ∃ t, v = .ref t ∧ H t = some (.lst (row.map .int))
def RowsAt (H : Hp) (v : V) (rows : List (List Int)) : Prop := ∃ t xs, v = .ref t ∧ H t = some (.lst xs) ∧ A2 (RowAt H) xs rows
def AlAt (H : Hp) (v : V) (al : Nat → List (List Int)) : Prop := ∃ t x0 x1, v = .ref t ∧ H t = some (.lst [x0, x1]) ∧ RowsAt H x0 (al 0) ∧ RowsAt H x1 (al 1)
def LetAt (H : Hp) (v : V) (l : List (Int × Int)) : Prop := ∃ t xs, v = .ref t ∧ H t = some (.lst xs) ∧ A2 (TpAt H) xs l
/-- pairs of inputs -/
abbrev IP := Nat × Nat
def kI (p : IP) : List Key := [.inl (p.1 : Int), .inl (p.2 : Int)]
def iI (p : IP) : Int × Int := ((p.1 : Int), (p.2 : Int))
abbrev BD := List (IP × List (Int × Int))
def EnAt (H : Hp) (e : List Key × V) (b : IP × List (Int × Int)) : Prop := e.1 = kI b.1 ∧ LetAt H e.2 b.2
def BoAt (H : Hp) (d : Addr) (bo : BD) : Prop := ∃ kvs, H d = some (.dT kvs) ∧ A2 (EnAt H) kvs bo
/-- what is no dict stands as it stood -/
def flatO (o : HO) : Prop := (∃ xs, o = .lst xs) ∨ (∃ xs, o = .tup xs)
def Kp (H H' : Hp) : Prop := ∀ b o, flatO o → H b = some o → H' b = some o
theorem Kp.lst {H H' : Hp} (s : Kp H H') {b xs} (e : H b = some (.lst xs)) : H' b = some (.lst xs) := s _ _ (.inl ⟨_, rfl⟩) e
theorem Kp.tup {H H' : Hp} (s : Kp H H') {b xs} (e : H b = some (.tup xs)) : H' b = some (.tup xs) := s _ _ (.inr ⟨_, rfl⟩) e
theorem Kp.refl (H : Hp) : Kp H H := fun _ _ _ e => e
theorem Kp.trans {H H1 H2 : Hp} (s : Kp H H1) (t : Kp H1 H2) : Kp H H2 := fun b o f e => t b o f (s b o f e)
theorem Kp.same {H H' : Hp} (s : Same H H') : Kp H H' := fun b o _ e => s b o e
theorem Kp.put {H : Hp} {d : Addr} {u : HO} {o : HO} (e : H d = some u) (n : ¬ flatO u) : Kp H (upd H d o) := fun b x f h => by
  by_cases c : b = d
  · subst c
    rw [e] at h
    cases h
    exact absurd f n
  · rw [upd_ne c]; exact h
theorem nf_dT {k : List (List Key × V)} : ¬ flatO (.dT k) := by rintro (⟨_, h⟩ | ⟨_, h⟩) <;> cases h
theorem nf_frz {o u} : ¬ flatO (.frz o u) := by rintro (⟨_, h⟩ | ⟨_, h⟩) <;> cases h
theorem TpAt.mono {H H' : Hp} (s : Kp H H') {v : V} {p : Int × Int} (h : TpAt H v p) : TpAt H' v p := by
  obtain ⟨t, e, h⟩ := h
  exact ⟨t, e, s.tup h⟩
theorem RowAt.mono {H H' : Hp} (s : Kp H H') {v : V} {p} (h : RowAt H v p) : RowAt H' v p := by
  obtain ⟨t, e, h⟩ := h
  exact ⟨t, e, s.lst h⟩
theorem RowsAt.mono {H H' : Hp} (s : Kp H H') {v : V} {p} (h : RowsAt H v p) : RowsAt H' v p := by
  obtain ⟨t, xs, e, h, a⟩ := h
  exact ⟨t, xs, e, s.lst h, a.imp fun _ _ r => r.mono s⟩
theorem AlAt.mono {H H' : Hp} (s : Kp H H') {v : V} {p} (h : AlAt H v p) : AlAt H' v p := by
  obtain ⟨t, x0, x1, e, h, a, b⟩ := h
  exact ⟨t, x0, x1, e, s.lst h, a.mono s, b.mono s⟩
theorem LetAt.mono {H H' : Hp} (s : Kp H H') {v : V} {p} (h : LetAt H v p) : LetAt H' v p := by
  obtain ⟨t, xs, e, h, a⟩ := h
  exact ⟨t, xs, e, s.lst h, a.imp fun _ _ r => r.mono s⟩
theorem EnAt.mono {H H' : Hp} (s : Kp H H') {v} {p} (h : EnAt H v p) : EnAt H' v p := ⟨h.1, h.2.mono s⟩
theorem BoAt.mono {H H' : Hp} (s : Same H H') {v} {p} (h : BoAt H v p) : BoAt H' v p := by
  obtain ⟨kvs, h, a⟩ := h
  exact ⟨kvs, s _ _ h, a.imp fun _ _ r => r.mono (.same s)⟩
def But (a : Addr) (H H' : Hp) : Prop := ∀ b o, b ≠ a → H b = some o → H' b = some o
theorem But.trans {a : Addr} {H H1 H2 : Hp} (h : But a H H1) (g : But a H1 H2) : But a H H2 := fun b o e q => g b o e (h b o e q)
theorem But.same {a : Addr} {H H' : Hp} (s : Same H H') : But a H H' := fun b o _ q => s b o q
theorem But.at {a : Addr} {H : Hp} {o : HO} : But a H (upd H a o) := fun b u nb e => by rw [upd_ne nb]; exact e
theorem But.kp {d : Addr} {H H' : Hp} {u : HO} (e : H d = some u) (n : ¬ flatO u) (s : But d H H') : Kp H H' := fun b x f h => s b x (fun c => by subst c; rw [e] at h; cases h; exact n f) h
/-- a dict that was locked and is unlocked again -/
theorem But.unlock {d : Addr} {H H' : Hp} {u : HO} (e : H d = some u) (s : But d H H') : Same H (upd H' d u) := fun b x h => by
  by_cases c : b = d
  · subst c
    rw [e] at h
    cases h
    exact upd_same
  · rw [upd_ne c]; exact s b x c h
theorem But.new {d p : Addr} {H0 H : Hp} {o : HO} (s : But d H0 H) (f : H0 p = none) : But d H0 (upd H p o) := fun b u nb e => by
  rw [upd_ne (ne_of_none e f)]
  exact s b u nb e
/-! the same as data -/
def pairD (p : Int × Int) : PyData := .tuple [.int p.1, .int p.2]
def rowD (row : List Int) : PyData := .list (row.map .int)
def rowsD (rows : List (List Int)) : PyData := .list (rows.map rowD)
def alD (al : Nat → List (List Int)) : PyData := .list [rowsD (al 0), rowsD (al 1)]
def letD (l : List (Int × Int)) : PyData := .list (l.map pairD)
theorem dp_ints {K : PySem.W.Frag} {H : Hp} : ∀ (row : List Int), DpAll K H (row.map V.int) (row.map PyData.int)
  | [] => .nil
  | i :: r => .cons (.int i) (dp_ints r)
theorem A2.dp {K : PySem.W.Frag} {H : Hp} {α : Type} {R : V → α → Prop} (f : α → PyData) (g : ∀ x y, R x y → Dp K H x (f y)) : ∀ {xs : List V} {ys : List α}, A2 R xs ys → DpAll K H xs (ys.map f)
  | _, _, .nil => .nil
  | _, _, .cons a b => .cons (g _ _ a) (b.dp f g)
theorem TpAt.dp {K : PySem.W.Frag} {H : Hp} {v : V} {p} (h : TpAt H v p) : Dp K H v (pairD p) := by
  obtain ⟨t, rfl, h⟩ := h
  exact .tup (SqT.of h) (.cons (.int _) (.cons (.int _) .nil))
theorem RowAt.dp {K : PySem.W.Frag} {H : Hp} {v : V} {p} (h : RowAt H v p) : Dp K H v (rowD p) := by
  obtain ⟨t, rfl, h⟩ := h
  exact .lst (SqL.of h) (dp_ints p)
theorem RowsAt.dp {K : PySem.W.Frag} {H : Hp} {v : V} {p} (h : RowsAt H v p) : Dp K H v (rowsD p) := by
  obtain ⟨t, xs, rfl, h, a⟩ := h
  exact .lst (SqL.of h) (a.dp rowD fun _ _ r => r.dp)
theorem AlAt.dp {K : PySem.W.Frag} {H : Hp} {v : V} {p} (h : AlAt H v p) : Dp K H v (alD p) := by
  obtain ⟨t, x0, x1, rfl, h, a, b⟩ := h
  exact .lst (SqL.of h) (.cons a.dp (.cons b.dp .nil))
theorem LetAt.dp {K : PySem.W.Frag} {H : Hp} {v : V} {p} (h : LetAt H v p) : Dp K H v (letD p) := by
  obtain ⟨t, xs, rfl, h, a⟩ := h
  exact .lst (SqL.of h) (a.dp pairD fun _ _ r => r.dp)
/-! what is drawn -/
def ltP (p q : Int × Int) : Prop := p.1 < q.1 ∨ (p.1 = q.1 ∧ p.2 < q.2)
def ltN (p q : IP) : Prop := p.1 < q.1 ∨ (p.1 = q.1 ∧ p.2 < q.2)
def okOut (x : Int) : Prop := 0 ≤ x ∧ x ≤ 63
def okRow (row : List Int) : Prop := 1 ≤ row.length ∧ row.length ≤ 60 ∧ row.Pairwise (· < ·) ∧ ∀ x ∈ row, okOut x
def okLet (l : List (Int × Int)) : Prop := 1 ≤ l.length ∧ l.length ≤ 200 ∧ l.Pairwise ltP ∧ ∀ p ∈ l, okOut p.1 ∧ okOut p.2
structure TD where
  al : Nat → List (List Int)
  bo : BD
structure WF (T : TD) : Prop where
  n0 : ∀ h, h < 2 → 1 ≤ (T.al h).length ∧ (T.al h).length ≤ 20
  row : ∀ h, h < 2 → ∀ r ∈ T.al h, okRow r
  srt : (T.bo.map (·.1)).Pairwise (· ≠ ·)
  rng : ∀ e ∈ T.bo, e.1.1 < (T.al 0).length ∧ e.1.2 < (T.al 1).length
  lets : ∀ e ∈ T.bo, okLet e.2
  com0 : ∀ a, a < (T.al 0).length → ∃ e ∈ T.bo, e.1.1 = a
  com1 : ∀ a, a < (T.al 1).length → ∃ e ∈ T.bo, e.1.2 = a
  many : T.bo.length ≤ 60
/-! the checks say yes to what is drawn -/
theorem risI_yes {ns : List Int} (h : ns.Pairwise (· < ·)) : risI ns = true := by
  unfold risI
  rw [List.all_eq_true]
  intro b hb
  obtain ⟨i, hi, rfl⟩ := List.mem_map.mp hb
  have hi := List.mem_range.mp hi
  have h1 : i < ns.length := by omega
  have h2 : i + 1 < ns.length := by omega
  show decide _ = true
  rw [decide_eq_true_eq, List.getD_eq_getElem?_getD, List.getD_eq_getElem?_getD, List.getElem?_eq_getElem h1, List.getElem?_eq_getElem h2]
  exact List.pairwise_iff_getElem.mp h i (i + 1) h1 h2 (by omega)
theorem out_yes {x : Int} (h : okOut x) : outB (.int x) = true := by
  unfold outB within
  exact decide_eq_true h
theorem intsOf_ints : ∀ row : List Int, intsOf (row.map PyData.int) = row
  | [] => rfl
  | x :: r => by
    have := intsOf_ints r
    unfold intsOf at this ⊢
    rw [List.map_cons, List.map_cons, this]
theorem outs_yes {row : List Int} (h : okRow row) : outsB (rowD row) = true := by
  show (decide (0 < (row.map PyData.int).length) && (((row.map PyData.int).map outB).all id && risI (intsOf (row.map PyData.int)))) = true
  rw [intsOf_ints, risI_yes h.2.2.1, List.length_map, decide_eq_true (show 0 < row.length by have := h.1; omega), Bool.and_true, Bool.true_and, List.all_eq_true]
  intro b hb
  obtain ⟨d, hd, rfl⟩ := List.mem_map.mp hb
  obtain ⟨x, hx, rfl⟩ := List.mem_map.mp hd
  exact out_yes (h.2.2.2 x hx)
theorem rows_yes {rows : List (List Int)} (h0 : 1 ≤ rows.length) (h : ∀ r ∈ rows, okRow r) : rowsB (rowsD rows) = true := by
  show (decide (0 < (rows.map rowD).length) && ((rows.map rowD).map outsB).all id) = true
  rw [List.length_map, decide_eq_true (show 0 < rows.length by omega), Bool.true_and, List.all_eq_true]
  intro b hb
  obtain ⟨d, hd, rfl⟩ := List.mem_map.mp hb
  obtain ⟨x, hx, rfl⟩ := List.mem_map.mp hd
  exact outs_yes (h x hx)
theorem alone_yes {T : TD} (W : WF T) : aloneB (alD T.al) = true := by
  show (decide (2 = 2) && [rowsB (rowsD (T.al 0)), rowsB (rowsD (T.al 1))].all id) = true
  rw [rows_yes (W.n0 0 (by decide)).1 (W.row 0 (by decide)), rows_yes (W.n0 1 (by decide)).1 (W.row 1 (by decide))]
  rfl
theorem lex_yes {p q : Int × Int} (h : ltP p q) : HT.lexLt [p.1, p.2] [q.1, q.2] = true := by
  rcases h with h | ⟨h1, h2⟩
  · have : ¬ p.1 = q.1 := by omega
    simp [HT.lexLt, h, this]
  · have : ¬ p.2 = q.2 := by omega
    simp [HT.lexLt, h1, h2, this]
theorem risP_yes {l : List (Int × Int)} (h : l.Pairwise ltP) : risP ((l.map pairD).map pairOf) = true := by
  unfold risP
  rw [List.all_eq_true]
  intro b hb
  obtain ⟨i, hi, rfl⟩ := List.mem_map.mp hb
  have hi := List.mem_range.mp hi
  rw [List.length_map, List.length_map] at hi
  have h1 : i < l.length := by omega
  have h2 : i + 1 < l.length := by omega
  have e : ∀ j (hj : j < l.length), ((l.map pairD).map pairOf).getD j [] = [l[j].1, l[j].2] := fun j hj => by
    rw [List.getD_eq_getElem?_getD, List.getElem?_map, List.getElem?_map, List.getElem?_eq_getElem hj]
    rfl
  show HT.lexLt _ _ = true
  rw [e i h1, e (i + 1) h2]
  exact lex_yes (List.pairwise_iff_getElem.mp h i (i + 1) h1 h2 (by omega))
theorem pair_yes {p : Int × Int} (h : okOut p.1 ∧ okOut p.2) : pairB (pairD p) = true := by
  show (decide (2 = 2) && [outB (.int p.1), outB (.int p.2)].all id) = true
  rw [out_yes h.1, out_yes h.2]
  rfl
theorem let_yes {l : List (Int × Int)} (h : okLet l) : letB (letD l) = true := by
  show (decide (0 < (l.map pairD).length) && (((l.map pairD).map pairB).all id && risP ((l.map pairD).map pairOf))) = true
  rw [risP_yes h.2.2.1, List.length_map, decide_eq_true (show 0 < l.length by have := h.1; omega), Bool.and_true, Bool.true_and, List.all_eq_true]
  intro b hb
  obtain ⟨d, hd, rfl⟩ := List.mem_map.mp hb
  obtain ⟨x, hx, rfl⟩ := List.mem_map.mp hd
  exact pair_yes (h.2.2.2 x hx)
theorem in_yes {n0 n1 : Nat} {p : IP} (h : p.1 < n0 ∧ p.2 < n1) : inB n0 n1 (pairD (iI p)) = true := by
  show (decide ((0 : Int) ≤ (p.1 : Int) ∧ (p.1 : Int) ≤ (n0 : Int) - 1) && decide ((0 : Int) ≤ (p.2 : Int) ∧ (p.2 : Int) ≤ (n1 : Int) - 1)) = true
  rw [decide_eq_true (show (0 : Int) ≤ (p.1 : Int) ∧ (p.1 : Int) ≤ (n0 : Int) - 1 by omega), decide_eq_true (show (0 : Int) ≤ (p.2 : Int) ∧ (p.2 : Int) ≤ (n1 : Int) - 1 by omega)]
  rfl
theorem small_row {row : List Int} (h : okRow row) : small (rowD row) := fun ds e => by
  cases e
  rw [List.length_map]
  have := h.2.1
  omega
end TA

set_option Elab.async false
set_option maxRecDepth 100000
set_option maxHeartbeats 4000000
namespace TA
open PySem L2 PyProof.Rows
set_option linter.unusedVariables false
structure Txt2 (K : PySem.W.Frag) (mg : Str → Option Value) : Prop where
  sorted : mg "sorted" = none
  set : mg "set" = none
  max : mg "max" = none
  zip : mg "zip" = none
  dict : mg "dict" = none
theorem hu65_of {A : Around} {k : Nat} (hr : Room k A) : A.units + 65 < cLine := by have := hr.un; omega
theorem keyT_turns {d : Addr} {o : Obj} {kvs : List (List Key × V)} {H0 : Hp} {Qd : Hp → Prop} {B : (Hp → Prop) → V → Hp → Prop} (Pv : Nat → Hp → Prop) (start : Pv 0 H0) (still : ∀ i H, Pv i H → H d = some (.frz o (.dT kvs)))
    (turn : ∀ i k v q H, kvs[i]? = some (k, v) → H q = some (.tup (k.map kV)) → Pv i H → B (Pv (i + 1)) (.ref q) H) (last : ∀ H, Pv kvs.length H → Qd H) :
    ∃ W : Nat → Nat → Hp → Prop, (∃ m, W 0 m H0) ∧ ∀ i m H, W i m H →
      ((Itkt d o kvs).stop i H ∧ Qd H) ∨ ((Itkt d o kvs).go i H ∧ ∃ Nx : Hp → Prop, (∀ H', Nx H' → ∃ m', m' < m ∧ W (i + 1) m' H') ∧ ∀ x H', (Itkt d o kvs).yld i H x H' → B Nx x H') :=
  turns kvs.length Pv start (fun H w => ⟨⟨still _ H w, Nat.le_refl _⟩, last H w⟩) fun i H hi w => ⟨⟨still i H w, hi⟩, fun x H' ⟨e, k, v, q, e1, e2, e3⟩ => by rw [e, e2]; exact turn i k v q H e1 e3 w⟩
theorem itemT_turns {d : Addr} {o : Obj} {kvs : List (List Key × V)} {H0 : Hp} {Qd : Hp → Prop} {B : (Hp → Prop) → V → Hp → Prop} (Pv : Nat → Hp → Prop) (start : Pv 0 H0) (still : ∀ i H, Pv i H → H d = some (.frz o (.dT kvs)))
    (turn : ∀ i k v q T H, kvs[i]? = some (k, v) → H q = some (.tup (k.map kV)) → H T = none → Pv i H → B (Pv (i + 1)) (.ref T) (upd H T (.tup [.ref q, v]))) (last : ∀ H, Pv kvs.length H → Qd H) :
    ∃ W : Nat → Nat → Hp → Prop, (∃ m, W 0 m H0) ∧ ∀ i m H, W i m H →
      ((Itit d o kvs).stop i H ∧ Qd H) ∨ ((Itit d o kvs).go i H ∧ ∃ Nx : Hp → Prop, (∀ H', Nx H' → ∃ m', m' < m ∧ W (i + 1) m' H') ∧ ∀ x H', (Itit d o kvs).yld i H x H' → B Nx x H') :=
  turns kvs.length Pv start (fun H w => ⟨⟨still _ H w, Nat.le_refl _⟩, last H w⟩) fun i H hi w => ⟨⟨still i H w, hi⟩, fun x H' ⟨T, q, k, v, e1, e2, e3, e4, e5⟩ => by rw [e3, e5]; exact turn i k v q T H e1 e2 e4 w⟩
/-! what comes, each once -/
def sel (h : Nat) (p : IP) : Nat := if h = 0 then p.1 else p.2
def distStep (acc : List Int) (x : Int) : List Int := if x ∈ acc then acc else acc ++ [x]
def dist (l : List Int) : List Int := l.foldl distStep []
theorem dist_snoc (l : List Int) (x : Int) : dist (l ++ [x]) = distStep (dist l) x := by
  unfold dist
  rw [List.foldl_append]
  rfl
theorem dist_mem_aux (x : Int) : ∀ (l acc : List Int), x ∈ l.foldl distStep acc ↔ x ∈ acc ∨ x ∈ l
  | [], acc => by simp
  | y :: l, acc => by
    rw [List.foldl_cons, dist_mem_aux x l]
    unfold distStep
    split
    · rename_i h
      constructor
      · rintro (a | a)
        · exact .inl a
        · exact .inr (List.mem_cons_of_mem _ a)
      · rintro (a | a)
        · exact .inl a
        · rcases List.mem_cons.mp a with rfl | a
          · exact .inl h
          · exact .inr a
    · rw [List.mem_append, List.mem_singleton, List.mem_cons]
      constructor
      · rintro ((a | a) | a)
        · exact .inl a
        · exact .inr (.inl a)
        · exact .inr (.inr a)
      · rintro (a | a | a)
        · exact .inl (.inl a)
        · exact .inl (.inr a)
        · exact .inr a
theorem dist_mem {l : List Int} {x : Int} : x ∈ dist l ↔ x ∈ l := by
  unfold dist
  rw [dist_mem_aux]
  simp
theorem dist_nd_aux : ∀ (l acc : List Int), acc.Nodup → (l.foldl distStep acc).Nodup
  | [], _, h => h
  | y :: l, acc, h => by
    rw [List.foldl_cons]
    refine dist_nd_aux l _ ?_
    unfold distStep
    split
    · exact h
    · rename_i c
      exact List.nodup_append.mpr ⟨h, by simp, fun a ha b hb e => by rw [List.mem_singleton] at hb; subst hb; subst e; exact c ha⟩
theorem dist_nd (l : List Int) : (dist l).Nodup := dist_nd_aux l [] List.nodup_nil
theorem nodup_sub : ∀ {xs ys : List Int}, xs.Nodup → (∀ x ∈ xs, x ∈ ys) → xs.length ≤ ys.length
  | [], _, _, _ => Nat.zero_le _
  | x :: xs, ys, h, s => by
    have hx := s x List.mem_cons_self
    obtain ⟨h1, h2⟩ := List.nodup_cons.mp h
    have r := nodup_sub (xs := xs) (ys := ys.erase x) h2 fun y hy => by
      have ne : y ≠ x := fun e => h1 (e ▸ hy)
      exact (List.mem_erase_of_ne ne).mpr (s y (List.mem_cons_of_mem _ hy))
    rw [List.length_erase_of_mem hx] at r
    have : 0 < ys.length := List.length_pos_of_mem hx
    rw [List.length_cons]
    omega
/-- all below n come, nothing else does -/
theorem dist_all {l : List Int} {n : Nat} (h1 : ∀ x ∈ l, ∃ a : Nat, a < n ∧ x = (a : Int)) (h2 : ∀ a : Nat, a < n → (a : Int) ∈ l) : (dist l).length = n := by
  have e : ((List.range n).map fun (a : Nat) => (a : Int)).length = n := by rw [List.length_map, List.length_range]
  have nd : ((List.range n).map fun (a : Nat) => (a : Int)).Nodup := List.Pairwise.map _ (fun a b (h : a ≠ b) => by show (a : Int) ≠ (b : Int); omega) List.nodup_range
  refine Nat.le_antisymm ?_ ?_
  · rw [← e]
    refine nodup_sub (dist_nd l) fun x hx => ?_
    obtain ⟨a, ha, rfl⟩ := h1 x (dist_mem.mp hx)
    exact List.mem_map.mpr ⟨a, List.mem_range.mpr ha, rfl⟩
  · have r := nodup_sub (xs := (List.range n).map fun (a : Nat) => (a : Int)) (ys := dist l) nd fun x hx => by
      obtain ⟨a, ha, rfl⟩ := List.mem_map.mp hx
      exact dist_mem.mpr (h2 a (List.mem_range.mp ha))
    rw [e] at r
    exact r
theorem dist_len_le (l : List Int) : (dist l).length ≤ l.length := nodup_sub (dist_nd l) fun x hx => dist_mem.mp hx
/-- row h of what is let alone -/
theorem AlAt.row {H : Hp} {v : V} {al : Nat → List (List Int)} (h : AlAt H v al) : ∃ t x0 x1, v = .ref t ∧ H t = some (.lst [x0, x1]) ∧ ∀ k, k < 2 → ∃ x, ([x0, x1] : List V)[k]? = some x ∧ RowsAt H x (al k) := by
  obtain ⟨t, x0, x1, e, h, a, b⟩ := h
  refine ⟨t, x0, x1, e, h, fun k hk => ?_⟩
  obtain rfl | rfl : k = 0 ∨ k = 1 := by omega
  · exact ⟨x0, rfl, a⟩
  · exact ⟨x1, rfl, b⟩
theorem kI_at {p : IP} {h : Nat} (hh : h < 2) : ((kI p).map kV)[h]? = some (.int (sel h p : Int)) := by
  obtain rfl | rfl : h = 0 ∨ h = 1 := by omega
  · rfl
  · rfl
theorem dec_nat {a b : Nat} : decide (V.int (a : Int) = V.int (b : Int)) = decide (a = b) := by
  by_cases c : a = b
  · rw [decide_eq_true c, c]; exact decide_eq_true rfl
  · rw [decide_eq_false c]; exact decide_eq_false fun e => by injection e with e; omega
def spEach (K : PySem.W.Frag) : Sp := fun vs H Q _ => ∃ (d : Addr) (v : V) (h : Nat) (kvs : List (List Key × V)) (ips : List IP) (al : Nat → List (List Int)), vs = [.ref d, v, .int (h : Int)] ∧ h < 2 ∧ H d = some (.dT kvs) ∧ kvs.map (·.1) = ips.map kI ∧ AlAt H v al ∧ ips.length ≤ 60 ∧
  ∀ H', Same H H' → Q (.bl (decide ((dist (ips.map fun p => ((sel h p : Nat) : Int))).length = (al h).length))) H'
section
variable {P : Program} {w : World} {K : PySem.W.Frag} {mg : Str → Option Value} {base : Heap}
abbrev nEach : List Str := ["both", "alone", "hand", "pair"]
theorem sc_each : FnScope nEach ["both", "alone", "hand"] (defScope s_each_comes) := ⟨rfl, rfl, rfl, by decide +kernel, rfl, by decide +kernel, by decide +kernel⟩
theorem ok_each {f : Addr} {fd : FuncData} (F : Fun K "each_comes" "each_comes" s_each_comes f fd) (T : Txt K mg) (T2 : Txt2 K mg) : FnOk P w K mg base CX0 1 f fd ["both", "alone", "hand"] (spEach K) := by
  refine F.ok sc_each (fun vs H Q E h => ?_) (fun cdv A outer s H vs Q E hr h => ?_)
  · obtain ⟨d, v, h, kvs, ips, al, rfl, _⟩ := h
    rfl
  obtain ⟨d, v, h, kvs, ips, al, rfl, hh, hd, hk, hA, hn, q⟩ := h
  have nd := sc_each.nd
  refine ⟨_, (pss_one (ps_ret (pe_cmpR op_eq (pe_callB call_len_SI (by rfl) T.len PySem.boot_len (pa_cons (pe_lock (pe_scI (own := [("pair", 3)]) (g := (gName 3)) (tt := tYes) (te := (tOp (rIxT K) (tVar 3) (tVar 2))) rfl nd (pi_keys (pv 0)) (blkOk_by (N := nEach) (sc := defScope s_each_comes) (by decide +kernel)) (fun _ _ _ _ _ => (by exact (pg_name (i := 3) nd rfl (Or.inl rfl)))) (fun _ _ _ _ _ => pts_nil) (fun _ _ _ _ _ => (by exact (pe_ix ix_tup (pv 3) (pv 2) (fun _ _ => rfl)))))) pa_nil)) (pe_callB call_len_seq (by rfl) T.len PySem.boot_len (pa_cons (pe_ix ix_list (pv 1) (pv 2) (fun _ _ => rfl)) pa_nil)) (nomark _)))), ?_⟩
  have hkl : kvs.length = ips.length := by
    have := congrArg List.length hk
    rwa [List.length_map, List.length_map] at this
  refine ⟨d, _, hd, trivial, fun od => ?_⟩
  have hd1 : (upd H d (.frz od (.dT kvs))) d = some (.frz od (.dT kvs)) := upd_same
  refine ⟨_, rfl, d, od, rfl, .inr ⟨kvs, hd1, fun D hD => ?_⟩⟩
  have nD : d ≠ D := ne_of_none hd1 hD
  refine keyT_turns (fun i H' => But d H H' ∧ H' d = some (.frz od (.dT kvs)) ∧ H' D = some (SetO w D (fun j => decide (j ∈ dist ((ips.take i).map fun p => ((sel h p : Nat) : Int)))) (dist ((ips.take i).map fun p => ((sel h p : Nat) : Int))).length)) ?_ (fun i H' h => h.2.1) ?_ ?_
  · refine ⟨But.at.trans (.same (same_new hD _)), by rw [upd_ne nD]; exact hd1, ?_⟩
    rw [upd_same]
    exact congrArg (fun z => some (SetO w D z 0)) (funext fun j => by simp [dist])
  · rintro i k v' qa H' hi hq ⟨b1, e1, e2⟩
    have hi2 : i < ips.length := by rw [← hkl]; exact (List.getElem?_eq_some_iff.mp hi).1
    have ek : k = kI ips[i] := by
      have z : (kvs.map (·.1))[i]? = some k := by rw [List.getElem?_map, hi]; rfl
      rw [hk, List.getElem?_map, List.getElem?_eq_getElem hi2] at z
      exact (Option.some.inj z).symm
    subst ek
    refine ⟨rfl, _, rfl, _, rfl, qa, _, _, _, rfl, rfl, SqT.of hq, atI_nat (kI_at hh), _, _, _, rfl, e2, ?_, ?_⟩
    · have := dist_len_le ((ips.take i).map fun p => ((sel h p : Nat) : Int))
      rw [List.length_map, List.length_take] at this
      unfold scanBound
      omega
    · have hDn : H D = none := by
        cases e : H D with
        | none => rfl
        | some o =>
          have z := But.at (H := H) (o := .frz od (.dT kvs)) D o (Ne.symm nD) e
          rw [z] at hD
          cases hD
      refine ⟨b1.new hDn, by rw [upd_ne nD]; exact e1, ?_⟩
      have et : (ips.take (i + 1)).map (fun p => ((sel h p : Nat) : Int)) = (ips.take i).map (fun p => ((sel h p : Nat) : Int)) ++ [((sel h ips[i] : Nat) : Int)] := by
        rw [List.take_add_one, List.getElem?_eq_getElem hi2, List.map_append]
        rfl
      rw [upd_same, et, dist_snoc]
      generalize dist ((ips.take i).map fun p => ((sel h p : Nat) : Int)) = L
      generalize ((sel h ips[i] : Nat) : Int) = x
      unfold distStep
      by_cases c : x ∈ L
      · rw [if_pos c, if_pos (decide_eq_true c)]
        refine congrArg (fun z => some (SetO w D z L.length)) (funext fun j => ?_)
        by_cases cj : j = x
        · subst cj; simp [c]
        · simp [cj]
      · rw [if_neg c, if_neg (by simp [c])]
        rw [List.length_append]
        refine congrArg (fun z => some (SetO w D z (L.length + 1))) (funext fun j => ?_)
        by_cases cj : j = x
        · subst cj; simp
        · simp [cj]
  · rintro H1 ⟨b1, e1, e2⟩
    rw [hkl, List.take_length] at e2
    have s1 : Same H (upd H1 d (.dT kvs)) := b1.unlock hd
    refine ⟨e1, D, _, _, rfl, (by rw [upd_ne (Ne.symm nD)]; exact e2), ?_⟩
    obtain ⟨t, x0, x1, rfl, ht, hrow⟩ := hA.row
    obtain ⟨x, hx, r, xs, rfl, hr2, ha2⟩ := hrow h hh
    refine ⟨_, rfl, _, rfl, t, _, _, _, rfl, rfl, SqL.of (s1 _ _ ht), atI_nat hx, r, xs, rfl, .inl (SqL.of (s1 _ _ hr2)), rfl, ?_⟩
    rw [dec_nat, ha2.len]
    exact q _ s1
end
end TA

set_option Elab.async false
set_option maxRecDepth 100000
set_option maxHeartbeats 4000000
namespace TA
open PySem L2 PyProof.Rows
set_option linter.unusedVariables false
theorem AlAt.at2 {K : PySem.W.Frag} {H : Hp} {v : V} {al : Nat → List (List Int)} (h : AlAt H v al) : ∃ t, v = .ref t ∧ AloneAt K H t (al 0).length (al 1).length := by
  obtain ⟨t, x0, x1, e, h, ⟨r0, xs0, rfl, h0, a0⟩, ⟨r1, xs1, rfl, h1, a1⟩⟩ := h
  exact ⟨t, e, ⟨r0, r1, xs0, xs1, SqL.of h, SqL.of h0, SqL.of h1, a0.len, a1.len⟩⟩
theorem all_true (n : Nat) : (List.replicate n true).all id = true := by
  rw [List.all_eq_true]
  intro b hb
  exact (List.mem_replicate.mp hb).2
theorem rep_snoc {n : Nat} : (List.replicate n true).map V.bl ++ [V.bl true] = (List.replicate (n + 1) true).map V.bl := by
  rw [List.replicate_succ', List.map_append]
  rfl
theorem comes_all {T : TD} (W : WF T) {h : Nat} (hh : h < 2) : (dist ((T.bo.map (·.1)).map fun p => ((sel h p : Nat) : Int))).length = (T.al h).length := by
  refine dist_all (fun x hx => ?_) (fun a ha => ?_)
  · obtain ⟨p, hp, rfl⟩ := List.mem_map.mp hx
    obtain ⟨e, he, rfl⟩ := List.mem_map.mp hp
    refine ⟨_, ?_, rfl⟩
    obtain ⟨r1, r2⟩ := W.rng e he
    obtain rfl | rfl : h = 0 ∨ h = 1 := by omega
    · exact r1
    · exact r2
  · obtain rfl | rfl : h = 0 ∨ h = 1 := by omega
    · obtain ⟨e, he, rfl⟩ := W.com0 a ha
      exact List.mem_map.mpr ⟨e.1, List.mem_map.mpr ⟨e, he, rfl⟩, rfl⟩
    · obtain ⟨e, he, rfl⟩ := W.com1 a ha
      exact List.mem_map.mpr ⟨e.1, List.mem_map.mpr ⟨e, he, rfl⟩, rfl⟩
theorem small_let {l : List (Int × Int)} (h : okLet l) : small (letD l) := fun ds e => by
  cases e
  rw [List.length_map]
  have := h.2.1
  omega
theorem keys_of {H : Hp} : ∀ {kvs : List (List Key × V)} {bo : BD}, A2 (EnAt H) kvs bo → kvs.map (·.1) = (bo.map (·.1)).map kI
  | _, _, .nil => rfl
  | _, _, .cons a b => by rw [List.map_cons, List.map_cons, List.map_cons, keys_of b, a.1]
theorem kI_tp {H : Hp} {q : Addr} {p : IP} (h : H q = some (.tup ((kI p).map kV))) : TpAt H (.ref q) (iI p) := ⟨q, rfl, h⟩
def spBoth (K : PySem.W.Frag) : Sp := fun vs H Q _ => ∃ (d : Addr) (v : V) (T : TD), vs = [.ref d, v] ∧ BoAt H d T.bo ∧ AlAt H v T.al ∧ WF T ∧ ∀ H', Same H H' → Q (.bl true) H'
section
variable {P : Program} {w : World} {K : PySem.W.Frag} {mg : Str → Option Value} {base : Heap}
abbrev nBoth : List Str := ["thing", "alone", "pair", "let", "hand"]
theorem sc_both : FnScope nBoth ["thing", "alone"] (defScope s_is_both) := ⟨rfl, rfl, rfl, by decide +kernel, rfl, by decide +kernel, by decide +kernel⟩
theorem ok_both {f g1 g2 g3 : Addr} {fd d1 d2 d3 : FuncData} (F : Fun K "is_both" "is_both" s_is_both f fd) (T : Txt K mg) (T2 : Txt2 K mg) (U : TxtH K mg) (W1 : Def P w K mg base "is_input_pair" ["thing", "alone"] 3 (spInp K) g1 d1)
    (W2 : Def P w K mg base "is_let" ["thing"] 5 (spLetB K) g2 d2) (W3 : Def P w K mg base "each_comes" ["both", "alone", "hand"] 1 (spEach K) g3 d3) : FnOk P w K mg base CX0 6 f fd ["thing", "alone"] (spBoth K) := by
  refine F.ok sc_both (fun vs H Q E h => ?_) (fun cdv A outer s H vs Q E hr h => ?_)
  · obtain ⟨d, v, D, rfl, _⟩ := h
    rfl
  obtain ⟨d, v, D, rfl, ⟨kvs, hd, ha⟩, hA, hW, q⟩ := h
  obtain ⟨hT, mH, hH⟩ := U.hands
  have nd := sc_both.nd
  refine ⟨_, (pss_one (ps_ret (pe_and (pe_callB call_isi (by rfl) T.isi boot_isinstance (pa_cons (pv 0) (pa_cons (pe_bltn (v := .ty "dict") (by rfl) T2.dict boot_dict rfl) pa_nil))) (pe_and (pe_callB (cr_all rfl) (by rfl) T.all (by decide +kernel) (pa_cons (pe_lock (pe_lc (own := [("pair", 2), ("let", 3)]) (g := (gTup K 2 (gCons (gName 2) (gCons (gName 3) gNil)))) (tt := tYes) (te := (tAndV (tCall (spInp K) [] E0 (tCons (tVar 2) (tCons (tVar 1) tNil))) (tCall (spLetB K) [] E0 (tCons (tVar 3) tNil)))) rfl nd (pi_itemsT (pv 0)) (blkOk_by (N := nBoth) (sc := defScope s_is_both) (by decide +kernel)) (fun _ _ _ _ _ => (by exact (pg_tup (by rfl) (pgs_cons (pg_name (i := 2) nd rfl (Or.inl rfl)) (pgs_cons (pg_name (i := 3) nd rfl (Or.inl rfl)) pgs_nil))))) (fun _ _ _ _ _ => pts_nil) (fun _ _ _ _ _ => (by exact (pe_and (pe_call W1.G (hr.mono (by decide)) rfl W1.m W1.k W1.b .nil pass0 (pa_cons (pv 2) (pa_cons (pv 1) pa_nil))) (pe_one (pe_call W2.G (hr.mono (by decide)) rfl W2.m W2.k W2.b .nil pass0 (pa_cons (pv 3) pa_nil)))))))) pa_nil)) (pe_one (pe_callB (cr_all rfl) (by rfl) T.all (by decide +kernel) (pa_cons (pe_lc (own := [("hand", 4)]) (g := (gName 4)) (tt := tYes) (te := (tCall (spEach K) [] E0 (tCons (tVar 0) (tCons (tVar 1) (tCons (tVar 4) tNil))))) rfl nd (pi_tup (pe_glob (v := .ref hT) rfl mH rfl)) (blkOk_by (N := nBoth) (sc := defScope s_is_both) (by decide +kernel)) (fun _ _ _ _ _ => (by exact (pg_name (i := 4) nd rfl (Or.inl rfl)))) (fun _ _ _ _ _ => pts_nil) (fun _ _ _ _ _ => (by exact (pe_call W3.G (hr.mono (by decide)) rfl W3.m W3.k W3.b .nil pass0 (pa_cons (pv 0) (pa_cons (pv 1) (pa_cons (pv 4) pa_nil))))))) pa_nil))))))), ?_⟩
  have hkl := ha.len
  refine ⟨_, rfl, V.ref d, .ty "dict", .type "dict", .type "dict", true, rfl, .ty "dict", .base (.dT hd), kit_ty (by decide +kernel), _, rfl, iteT ?_⟩
  refine ⟨d, _, hd, trivial, fun od => ?_⟩
  have hd1 : (upd H d (.frz od (.dT kvs))) d = some (.frz od (.dT kvs)) := upd_same
  refine ⟨_, rfl, d, od, kvs, rfl, hd1, fun L hL => ?_⟩
  have nL : d ≠ L := ne_of_none hd1 hL
  have hLn : H L = none := by
    cases e : H L with
    | none => rfl
    | some o =>
      have z := But.at (H := H) (o := .frz od (.dT kvs)) L o (Ne.symm nL) e
      rw [z] at hL
      cases hL
  refine itemT_turns (fun i H' => But d H H' ∧ H' d = some (.frz od (.dT kvs)) ∧ H' L = some (.lst ((List.replicate i true).map V.bl))) ⟨But.at.trans (.same (same_new hL _)), by rw [upd_ne nL]; exact hd1, upd_same⟩ (fun i H' h => h.2.1) ?_ ?_
  · rintro i k x qa Tt H' hi hq hTn ⟨b1, e1, e2⟩
    obtain ⟨eb, hbi, ek, hx⟩ := ha.get hi
    have hm := List.mem_of_getElem? hbi
    dsimp only at ek hx
    subst ek
    have s1 := same_new hTn (.tup [V.ref qa, x])
    have kp : Kp H (upd H' Tt (.tup [V.ref qa, x])) := (b1.kp hd nf_dT).trans (.same s1)
    obtain ⟨al, rfl, hAl⟩ := (hA.mono kp).at2 (K := K)
    have hi2 : i < kvs.length := (List.getElem?_eq_some_iff.mp hi).1
    refine ⟨Tt, _, rfl, SqT.of upd_same, rfl, _, _, rfl, _, _, rfl, rfl, rfl, _, rfl, _, rfl, _, _, al, _, _, rfl, (kI_tp (s1 _ _ hq)).dp, hAl, fun H2 s2 => ?_⟩
    rw [in_yes (hW.rng eb hm)]
    refine ⟨_, rfl, iteT ⟨_, rfl, _, _, rfl, ((hx.mono kp).mono (.same s2)).dp, small_let (hW.lets eb hm), fun H3 s3 => ?_⟩⟩
    rw [let_yes (hW.lets eb hm)]
    have s13 := (s1.trans s2).trans s3
    refine ⟨_, s13 _ _ e2, ?_, (b1.trans (.same s13)).new hLn, by rw [upd_ne nL]; exact s13 _ _ e1, by rw [upd_same, rep_snoc]⟩
    rw [List.length_map, List.length_replicate]
    have := hW.many
    exact Nat.lt_of_lt_of_le (show i < 100 by omega) (by decide)
  · rintro H1 ⟨b1, e1, e2⟩
    have s1 : Same H (upd H1 d (.dT kvs)) := b1.unlock hd
    refine ⟨e1, L, _, rfl, SqL.of (by rw [upd_ne (Ne.symm nL)]; exact e2), ?_⟩
    rw [all_true]
    refine ⟨_, rfl, iteT ⟨hT, rfl, ⟨_, hH _⟩, fun L2 hL2 => ?_⟩⟩
    generalize upd H1 d (.dT kvs) = H2 at s1 hL2 ⊢
    refine tup_turns (xs := [V.int 0, V.int 1]) (fun i H' => Same H H' ∧ H' L2 = some (.lst ((List.replicate i true).map V.bl))) ⟨s1.trans (same_new hL2 _), upd_same⟩ (fun i H' _ _ => hH H') ?_ ?_
    · rintro i z H' hz ⟨s3, h3⟩
      have hi : i < 2 := (List.getElem?_eq_some_iff.mp hz).1
      obtain rfl : z = .int (i : Int) := by
        obtain rfl | rfl : i = 0 ∨ i = 1 := by omega
        · simpa using hz.symm
        · simpa using hz.symm
      obtain ⟨al, x0, x1, rfl, _⟩ := id hA
      refine ⟨rfl, _, rfl, _, rfl, _, rfl, d, _, i, kvs, D.bo.map (·.1), D.al, rfl, hi, s3 _ _ hd, keys_of ha, hA.mono (.same s3), by rw [List.length_map]; exact hW.many, fun H4 s4 => ?_⟩
      rw [comes_all hW hi, decide_eq_true rfl]
      have hL2n : H L2 = none := by
        cases e : H L2 with
        | none => rfl
        | some o => rw [s1 _ _ e] at hL2; cases hL2
      refine ⟨_, s4 _ _ h3, ?_, same_upd (s3.trans s4) hL2n, by rw [upd_same, rep_snoc]⟩
      rw [List.length_map, List.length_replicate]
      exact Nat.lt_of_lt_of_le (show i < 100 by omega) (by decide)
    · rintro H3 ⟨s3, h3⟩
      refine ⟨L2, _, rfl, SqL.of h3, ?_⟩
      rw [all_true]
      exact q _ s3
end
end TA

set_option Elab.async false
set_option maxRecDepth 100000
set_option maxHeartbeats 4000000
namespace TA
open PySem L2 PyProof.Rows
set_option linter.unusedVariables false
abbrev s_init : Stmt := inClass s_Task 0
abbrev s_eq : Stmt := inClass s_Task 1
abbrev s_inputs : Stmt := inClass s_Task 2
abbrev s_pairs : Stmt := inClass s_Task 3
theorem kfld : ¬ (("alone" : Str) = "both") := by decide +kernel
/-- a task's fields -/
def flds (a d : Addr) : List (Str × V) := putF "both" (.ref d) (putF "alone" (.ref a) [])
theorem flds_eq (a d : Addr) : flds a d = ([("alone", V.ref a), ("both", V.ref d)] : List (Str × V)) := by
  show (if ("alone" : Str) = "both" then [(("alone" : Str), V.ref d)] else (("alone" : Str), V.ref a) :: putF "both" (V.ref d) []) = ([("alone", V.ref a), ("both", V.ref d)] : List (Str × V))
  rw [if_neg kfld]
  all_goals rfl
theorem flds_alone (a d : Addr) : (flds a d).lookup ("alone" : Str) = some (.ref a) := by
  unfold flds
  rw [lookup_putF, if_neg kfld, lookup_putF, if_pos rfl]
theorem flds_both (a d : Addr) : (flds a d).lookup ("both" : Str) = some (.ref d) := by
  unfold flds
  rw [lookup_putF, if_pos rfl]
theorem flds_no (a d : Addr) {m : Str} (h1 : ¬ m = "both") (h2 : ¬ m = "alone") : (flds a d).lookup m = none := by
  unfold flds
  rw [lookup_putF, if_neg h1, lookup_putF, if_neg h2]
  all_goals rfl
/-- a task stands at p -/
def TaskAt (C : Addr) (H : Hp) (p : Addr) (T : TD) : Prop := ∃ dx a d, H p = some (.ins C dx (flds a d)) ∧ AlAt H (.ref a) T.al ∧ BoAt H d T.bo
theorem TaskAt.mono {C : Addr} {H H' : Hp} (s : Same H H') {p : Addr} {T : TD} (h : TaskAt C H p T) : TaskAt C H' p T := by
  obtain ⟨dx, a, d, h1, h2, h3⟩ := h
  exact ⟨dx, a, d, s _ _ h1, h2.mono (.same s), h3.mono s⟩
/-- a task whose dict is perhaps walked just now -/
def BoR (H : Hp) (d : Addr) (bo : BD) : Prop := ∃ kvs, Rd H d (.dT kvs) ∧ A2 (EnAt H) kvs bo
def TaskR (C : Addr) (H : Hp) (p : Addr) (T : TD) : Prop := ∃ dx a d, H p = some (.ins C dx (flds a d)) ∧ AlAt H (.ref a) T.al ∧ BoR H d T.bo
theorem rd_same {H H' : Hp} (s : Same H H') {a : Addr} {u : HO} (h : Rd H a u) : Rd H' a u := by
  rcases h with h | ⟨o, h⟩
  · exact .inl (s _ _ h)
  · exact .inr ⟨o, s _ _ h⟩
theorem rd_some {H : Hp} {a : Addr} {u : HO} (h : Rd H a u) : H a ≠ none := by
  rcases h with h | ⟨o, h⟩ <;> rw [h] <;> exact fun c => by cases c
theorem BoR.mono {H H' : Hp} (s : Same H H') {v} {p} (h : BoR H v p) : BoR H' v p := by
  obtain ⟨kvs, h, a⟩ := h
  exact ⟨kvs, rd_same s h, a.imp fun _ _ r => r.mono (.same s)⟩
theorem TaskAt.r {C : Addr} {H : Hp} {p : Addr} {T : TD} (h : TaskAt C H p T) : TaskR C H p T := by
  obtain ⟨dx, a, d, h1, h2, kvs, h3, h4⟩ := h
  exact ⟨dx, a, d, h1, h2, kvs, .inl h3, h4⟩
theorem TaskR.mono {C : Addr} {H H' : Hp} (s : Same H H') {p : Addr} {T : TD} (h : TaskR C H p T) : TaskR C H' p T := by
  obtain ⟨dx, a, d, h1, h2, h3⟩ := h
  exact ⟨dx, a, d, s _ _ h1, h2.mono (.same s), h3.mono s⟩
theorem dget_rd {H : Hp} {a b : Addr} {kvs : List (List Key × V)} {k : List Key} (e : Rd H a (.dT kvs)) (eb : H b = some (.tup (k.map kV))) : DGet H a (.ref b) (valV kvs k) := .inr ⟨kvs, k, b, e, rfl, eb, rfl⟩
def rLenTR : List V → Hp → VK → Prop := fun xs H Q => ∃ (p : Addr) (kvs : List (List Key × V)), xs = [.ref p] ∧ Rd H p (.dT kvs) ∧ Q (.int ((kvs.length : Nat) : Int)) H
theorem len_dTR {X : Cx} : CallR X (.builtin "len") rLenTR := by
  intro pins s σ H xs us Q I r h
  obtain ⟨p, kvs, rfl, hp, q⟩ := h
  obtain ⟨u, rfl, rx⟩ := vals1 r
  obtain rfl : u = .ref p := rx
  obtain ⟨z, hd, ys, rel, dd⟩ := dt_rd I.hok hp
  have hl : kvs.length = ys.length := Paired.length rel
  refine call_len_dictH hd dd (by rw [← hl]; rw [sizeLine_eq] at z; omega) ?_
  rw [← hl]
  exact ⟨.int ((kvs.length : Nat) : Int), H, I.tok _, ⟨_, rfl⟩, q⟩
structure TxtC (K : PySem.W.Frag) (mg : Str → Option Value) (C : Addr) : Prop where
  cl : Cls K C
  nA : NoAttr K C "alone"
  nB : NoAttr K C "both"
  mg : mg "Task" = some (.ref C)
structure MDef (P : Program) (w : World) (K : PySem.W.Frag) (mg : Str → Option Value) (base : Heap) (C : Addr) (m : Str) (ps : List Str) (k : Nat) (sp : Sp) (f : Addr) (fd : FuncData) : Prop where
  G : FnOk P w K mg base CX0 k f fd ps sp
  b : Binds K fd ps []
  M : Meth K C m f
/-- what is new in H' behind H0, but for D -/
def nwx (H0 : Hp) (D : Addr) (H' : Hp) : Hp := fun b => if H0 b = none ∧ b ≠ D then H' b else none
theorem nwx_some {H0 : Hp} {D : Addr} {H' : Hp} {b : Addr} {o : HO} (h : nwx H0 D H' b = some o) : H0 b = none ∧ b ≠ D ∧ H' b = some o := by
  unfold nwx at h
  split at h
  · rename_i c
    exact ⟨c.1, c.2, h⟩
  · cases h
theorem nwx_put {H0 : Hp} {D : Addr} {H' : Hp} {b : Addr} {o : HO} (h0 : H0 b = none) (hD : b ≠ D) (h : H' b = some o) : nwx H0 D H' b = some o := by
  unfold nwx
  rw [if_pos ⟨h0, hD⟩, h]
theorem kp_nwx {H0 : Hp} {D : Addr} {H' : Hp} : Kp (nwx H0 D H') H' := fun b o _ h => (nwx_some h).2.2
theorem kp_nwx_but {H0 : Hp} {D : Addr} {H H' : Hp} (s : But D H H') : Kp (nwx H0 D H) (nwx H0 D H') := fun b o _ h => by
  obtain ⟨h1, h2, h3⟩ := nwx_some h
  exact nwx_put h1 h2 (s b o h2 h3)
theorem none_of_same {H H' : Hp} (s : Same H H') {b : Addr} (h : H' b = none) : H b = none := by
  cases e : H b with
  | none => rfl
  | some o => rw [s _ _ e] at h; cases h
theorem none_of_but {d : Addr} {H H' : Hp} (s : But d H H') {b : Addr} (n : b ≠ d) (h : H' b = none) : H b = none := by
  cases e : H b with
  | none => rfl
  | some o => rw [s _ _ n e] at h; cases h
theorem kp_nwx_in {H0 H1 : Hp} {D D1 : Addr} {H2 : Hp} (s : Same H0 H1) {o1 : HO} (e1 : H1 D1 = some o1) : Kp (nwx H1 D H2) (nwx H0 D1 H2) := fun b o _ h => by
  obtain ⟨h1, h2, h3⟩ := nwx_some h
  exact nwx_put (none_of_same s h1) (fun c => by subst c; rw [e1] at h1; cases h1) h3
/-- pairs let in a new list, the pairs' tuples anywhere -/
def Let2 (Hl H : Hp) (v : V) (l : List (Int × Int)) : Prop := ∃ t xs, v = .ref t ∧ Hl t = some (.lst xs) ∧ A2 (TpAt H) xs l
theorem Let2.mono {Hl Hl' H H' : Hp} (s : Kp Hl Hl') (s' : Kp H H') {v : V} {p} (h : Let2 Hl H v p) : Let2 Hl' H' v p := by
  obtain ⟨t, xs, e, h, a⟩ := h
  exact ⟨t, xs, e, s.lst h, a.imp fun _ _ r => r.mono s'⟩
def En2 (Hl H : Hp) (e : List Key × V) (b : IP × List (Int × Int)) : Prop := e.1 = kI b.1 ∧ Let2 Hl H e.2 b.2
theorem En2.mono {Hl Hl' H H' : Hp} (s : Kp Hl Hl') (s' : Kp H H') {v} {p} (h : En2 Hl H v p) : En2 Hl' H' v p := ⟨h.1, h.2.mono s s'⟩
theorem En2.en {Hl H : Hp} (s : Kp Hl H) {v} {p} (h : En2 Hl H v p) : EnAt H v p := by
  obtain ⟨e, t, xs, e2, h, a⟩ := h
  exact ⟨e, t, xs, e2, s.lst h, a⟩
theorem kI_inj {p q : IP} (h : kI p = kI q) : p = q := by
  unfold kI at h
  injection h with h1 h2
  injection h2 with h2 _
  injection h1 with h1
  injection h2 with h2
  have a : p.1 = q.1 := by omega
  have b : p.2 = q.2 := by omega
  exact Prod.ext a b
theorem valV_noneP : ∀ {kvs : List (List Key × V)} {k : List Key}, (∀ e ∈ kvs, e.1 ≠ k) → valV kvs k = none
  | [], _, _ => rfl
  | e :: r, k, h => by
    rw [valV_neg (h e List.mem_cons_self)]
    exact valV_noneP fun x hx => h x (List.mem_cons_of_mem _ hx)
theorem ltN_ne {p q : IP} (h : ltN p q) : p ≠ q := by
  rintro rfl
  rcases h with h | ⟨_, h⟩ <;> omega
/-- what a new task holds: its lists are new, all of them -/
def NewAt (C : Addr) (H H' : Hp) (p : Addr) (T : TD) : Prop := ∃ dx a d kvs, H' p = some (.ins C dx (flds a d)) ∧ AlAt (nwx H p H') (.ref a) T.al ∧ H d = none ∧ (kvs.map (·.2)).Nodup ∧ H' d = some (.dT kvs) ∧ A2 (En2 (nwx H p H') H') kvs T.bo
theorem NewAt.task {C : Addr} {H H' : Hp} {p : Addr} {T : TD} (h : NewAt C H H' p T) : TaskAt C H' p T := by
  obtain ⟨dx, a, d, kvs, h1, h2, _, _, h3, h4⟩ := h
  exact ⟨dx, a, d, h1, h2.mono kp_nwx, kvs, h3, h4.imp fun _ _ r => r.en kp_nwx⟩
def spInit (K : PySem.W.Frag) (C : Addr) : Sp := fun vs H Q _ => ∃ (p dx a d : Addr) (T : TD), vs = [.ref p, .ref a, .ref d] ∧ H p = some (.ins C dx []) ∧ AlAt H (.ref a) T.al ∧ BoAt H d T.bo ∧ WF T ∧
  ∀ H', But p H H' → NewAt C H H' p T → Q .non H'
theorem al_rows {H : Hp} {v : V} {al : Nat → List (List Int)} (h : AlAt H v al) : ∃ t xs, v = .ref t ∧ H t = some (.lst xs) ∧ A2 (RowsAt H) xs [al 0, al 1] := by
  obtain ⟨t, x0, x1, e, h, a, b⟩ := h
  exact ⟨t, _, e, h, .cons a (.cons b .nil)⟩
theorem al_of {H : Hp} {t : Addr} {xs : List V} {al : Nat → List (List Int)} (h : H t = some (.lst xs)) (a : A2 (RowsAt H) xs [al 0, al 1]) : AlAt H (.ref t) al := by
  cases a with
  | cons a b =>
    cases b with
    | cons b c =>
      cases c
      exact ⟨t, _, _, rfl, h, a, b⟩
theorem small_rows {T : TD} (W : WF T) {h : Nat} (hh : h < 2) : ∀ e ∈ (T.al h).map rowD, small e := fun e he => by
  obtain ⟨r, hr, rfl⟩ := List.mem_map.mp he
  exact small_row (W.row h hh r hr)
theorem take_get {α : Type} {l : List α} {i : Nat} {x : α} (h : l[i]? = some x) : l.take (i + 1) = l.take i ++ [x] := by
  rw [List.take_add_one, h]
  rfl
section
variable {P : Program} {w : World} {K : PySem.W.Frag} {mg : Str → Option Value} {base : Heap}
abbrev nInit : List Str := ["self", "alone", "both", "rows", "outputs", "pair", "let"]
theorem sc_init : FnScope nInit ["self", "alone", "both"] (defScope s_init) := ⟨rfl, rfl, rfl, by decide +kernel, rfl, by decide +kernel, by decide +kernel⟩
theorem ok_init {f g4 g5 C : Addr} {fd d4 d5 : FuncData} (F : Fun K "__init__" "Task.__init__" s_init f fd) (T : Txt K mg) (T2 : Txt2 K mg) (Z : TxtC K mg C) (W4 : Def P w K mg base "is_alone" ["thing"] 6 (spAlone K) g4 d4)
    (W5 : Def P w K mg base "is_both" ["thing", "alone"] 6 (spBoth K) g5 d5) : FnOk P w K mg base CX0 7 f fd ["self", "alone", "both"] (spInit K C) := by
  refine F.ok sc_init (fun vs H Q E h => ?_) (fun cdv A outer s H vs Q E hr h => ?_)
  · obtain ⟨p, dx, a, d, D, rfl, _⟩ := h
    rfl
  obtain ⟨p, dx, a, d, D, rfl, hp, hA, hB, hW, q⟩ := h
  have nd := sc_init.nd
  have hu := hu_of hr
  refine ⟨_, (pss_cons (ps_if (pt_not (pt_val (pe_call W4.G (hr.mono (by decide)) rfl W4.m W4.k W4.b .nil pass0 (pa_cons (pv 1) pa_nil))))
      pss_never
      pss_nil)
    (pss_cons (ps_if (pt_not (pt_val (pe_call W5.G (hr.mono (by decide)) rfl W5.m W5.k W5.b .nil pass0 (pa_cons (pv 2) (pa_cons (pv 1) pa_nil)))))
      pss_never
      pss_nil)
    (pss_cons (ps_fld (pv 0) (pe_lc (own := [("rows", 3)]) (g := (gName 3)) (tt := tYes) (te := (tLc (iList K (tVar 3)) (gName 4) tYes (tCB (fun xs H Q => ∃ p ys, xs = [.ref p] ∧ (SqL K H p ys ∨ SqT K H p ys) ∧ ∀ l, H l = none → Q (.ref l) (upd H l (.lst ys))) (tCons (tVar 4) tNil)) [4])) rfl nd (pi_list (pv 1)) (blkOk_by (N := nInit) (sc := defScope s_init) (by decide +kernel)) (fun _ _ _ _ _ => (by exact (pg_name (i := 3) nd rfl (Or.inl rfl)))) (fun _ _ _ _ _ => pts_nil) (fun _ _ _ _ _ => (by exact (pe_lc (own := [("outputs", 4)]) (g := (gName 4)) (tt := tYes) (te := (tCB (fun xs H Q => ∃ p ys, xs = [.ref p] ∧ (SqL K H p ys ∨ SqT K H p ys) ∧ ∀ l, H l = none → Q (.ref l) (upd H l (.lst ys))) (tCons (tVar 4) tNil))) rfl nd (pi_list (pv 3)) (blkOk_by (N := nInit)  (by kernel_rfl)) (fun _ _ _ _ _ => (by exact (pg_name (i := 4) nd rfl (Or.inl rfl)))) (fun _ _ _ _ _ => pts_nil) (fun _ _ _ _ _ => (by exact (pe_callTy call_list_of (by rfl) T.list boot_list (pa_cons (pv 4) pa_nil)))))))) rfl)
    (pss_one (ps_fld (pv 0) (pe_lock (pe_dcT (own := [("pair", 5), ("let", 6)]) (g := (gTup K 2 (gCons (gName 5) (gCons (gName 6) gNil)))) (tt := tYes) (tk := (tVar 5)) (tv := (tCB (fun xs H Q => ∃ p ys, xs = [.ref p] ∧ (SqL K H p ys ∨ SqT K H p ys) ∧ ∀ l, H l = none → Q (.ref l) (upd H l (.lst ys))) (tCons (tVar 6) tNil))) hu rfl nd (pi_itemsT (pv 2)) (blkOk_by (N := nInit) (sc := defScope s_init) (by decide +kernel)) (fun _ _ _ _ _ => (by exact (pg_tup (by rfl) (pgs_cons (pg_name (i := 5) nd rfl (Or.inl rfl)) (pgs_cons (pg_name (i := 6) nd rfl (Or.inl rfl)) pgs_nil))))) (fun _ _ _ _ _ => pts_nil) (fun _ _ _ _ _ => (by exact (pv 5))) (fun _ _ _ _ _ => (by exact (pe_callTy call_list_of (by rfl) T.list boot_list (pa_cons (pv 6) pa_nil)))))) rfl))))), ?_⟩
  refine ⟨_, rfl, _, _, rfl, hA.dp, (fun ds e => by cases e; exact (by decide : 2 ≤ 1000)), ?_, fun H1 s1 => ?_⟩
  · rintro ds e z hz
    cases e
    rcases List.mem_cons.mp hz with rfl | hz
    · refine ⟨fun es e => ?_, fun es e => ?_⟩
      · cases e
        rw [List.length_map]
        have := hW.n0 0 (by decide); omega
      · cases e
        exact small_rows hW (by decide)
    · obtain rfl := List.mem_singleton.mp hz
      refine ⟨fun es e => ?_, fun es e => ?_⟩
      · cases e
        rw [List.length_map]
        have := hW.n0 1 (by decide); omega
      · cases e
        exact small_rows hW (by decide)
  rw [alone_yes hW]
  refine ⟨true, rfl, iteF ?_⟩
  refine ⟨_, rfl, _, rfl, d, _, D, rfl, hB.mono s1, hA.mono (.same s1), hW, fun H2 s2 => ⟨true, rfl, iteF ?_⟩⟩
  have s12 := s1.trans s2
  obtain ⟨al, xs, e, hal, hrows⟩ := al_rows (hA.mono (.same s12))
  obtain rfl : a = al := by injection e
  clear e
  refine ⟨_, rfl, a, rfl, ⟨_, SqL.of hal⟩, fun D1 hD1 => ?_⟩
  have hD1n : H D1 = none := none_of_same s12 hD1
  refine list_turns (xs := xs) (fun i H' => Same H2 H' ∧ ∃ ys, H' D1 = some (.lst ys) ∧ A2 (RowsAt (nwx H2 D1 H')) ys ([D.al 0, D.al 1].take i)) ⟨same_new hD1 _, [], upd_same, .nil⟩ (fun i H' _ h => h.1.seq (SqL.of hal)) ?_ ?_
  · rintro i x H' hx ⟨s3, ys, hy, ay⟩
    obtain ⟨rows, hr1, t, zs, rfl, ht, az⟩ := hrows.get hx
    have ht3 := s3 _ _ ht
    have hsz : rows.length ≤ 20 := by
      have hi : i < 2 := (List.getElem?_eq_some_iff.mp hr1).1
      obtain rfl | rfl : i = 0 ∨ i = 1 := by omega
      · obtain rfl : D.al 0 = rows := by simpa using hr1
        exact (hW.n0 0 (by decide)).2
      · obtain rfl : D.al 1 = rows := by simpa using hr1
        exact (hW.n0 1 (by decide)).2
    refine ⟨rfl, _, rfl, t, rfl, ⟨_, SqL.of ht3⟩, fun D2 hD2 => ?_⟩
    refine list_turns (xs := zs) (fun j H4 => Same H' H4 ∧ ∃ us, H4 D2 = some (.lst us) ∧ A2 (RowAt (nwx H' D2 H4)) us (rows.take j)) ⟨same_new hD2 _, [], upd_same, .nil⟩ (fun j H4 _ h => h.1.seq (SqL.of ht3)) ?_ ?_
    · rintro j z H4 hz ⟨s4, us, hu4, au⟩
      obtain ⟨row, hr2, tt, rfl, htt⟩ := az.get hz
      have htt4 := s4 _ _ (s3 _ _ htt)
      refine ⟨rfl, _, rfl, tt, _, rfl, .inl (SqL.of htt4), fun l hl => ?_⟩
      have s5 := same_new hl (.lst (row.map V.int))
      have nl : l ≠ D2 := (ne_of_none hu4 hl).symm
      have hjr : us.length < rows.length := by
        rw [au.len, List.length_take]
        have := (List.getElem?_eq_some_iff.mp hr2).1
        omega
      refine ⟨us, s5 _ _ hu4, Nat.lt_of_lt_of_le (show us.length < 100 by omega) (by decide), ?_⟩
      refine ⟨same_upd (s4.trans s5) hD2, _, upd_same, ?_⟩
      rw [take_get hr2]
      refine A2.snoc (au.imp fun _ _ r => r.mono (kp_nwx_but ((But.same s5).trans But.at))) ⟨l, rfl, nwx_put (none_of_same s4 hl) nl ?_⟩
      rw [upd_ne nl]
      exact upd_same
    · rintro H4 ⟨s4, us, hu4, au⟩
      have hzl := az.len
      rw [hzl, List.take_length] at au
      have ne : D2 ≠ D1 := (ne_of_none hy hD2).symm
      refine ⟨ys, s4 _ _ hy, ?_, ?_⟩
      · rw [ay.len, List.length_take]
        exact Nat.lt_of_le_of_lt (Nat.min_le_right _ _) (by show 2 < sizeLine; decide)
      refine ⟨same_upd (s3.trans s4) hD1, _, upd_same, ?_⟩
      rw [take_get hr1]
      refine A2.snoc (ay.imp fun _ _ r => r.mono (kp_nwx_but ((But.same s4).trans But.at))) ?_
      have r0 : RowsAt (nwx H2 D1 H4) (.ref D2) rows := ⟨D2, us, rfl, nwx_put (none_of_same s3 hD2) ne hu4, au.imp fun _ _ r => r.mono (kp_nwx_in s3 hy)⟩
      exact r0.mono (kp_nwx_but But.at)
  · rintro H3 ⟨s3, ys, hy, ay⟩
    have hxl := hrows.len
    rw [hxl, List.take_length] at ay
    have hp3 := s3 _ _ (s12 _ _ hp)
    refine ⟨_, rfl, p, C, dx, _, rfl, hp3, Z.cl, Z.nA, (by show 0 < 1000; decide), ?_⟩
    have npD1 : D1 ≠ p := (ne_of_none (s12 _ _ hp) hD1).symm
    generalize hH5 : upd H3 p (.ins C dx (putF "alone" (.ref D1) [])) = H5
    have b5 : But p H H5 := by rw [← hH5]; exact (But.same (s12.trans s3)).trans But.at
    have hp5 : H5 p = some (.ins C dx (putF "alone" (.ref D1) [])) := by rw [← hH5]; exact upd_same
    have hD15 : H5 D1 = some (.lst ys) := by rw [← hH5, upd_ne npD1]; exact hy
    have ay5 : A2 (RowsAt (nwx H p H5)) ys [D.al 0, D.al 1] := ay.imp fun _ _ r => r.mono fun b o _ h => by
      obtain ⟨h1, h2, h3⟩ := nwx_some h
      have hb : b ≠ p := fun c => by subst c; rw [s12 _ _ hp] at h1; cases h1
      refine nwx_put (none_of_same s12 h1) hb ?_
      rw [← hH5, upd_ne hb]; exact h3
    obtain ⟨kvs, hd, ha⟩ := hB
    have ndp : d ≠ p := ne_of hd hp (fun z => by cases z)
    have hd5 : H5 d = some (.dT kvs) := b5 _ _ ndp hd
    have ha5 : A2 (EnAt H5) kvs D.bo := ha.imp fun _ _ r => r.mono (b5.kp hp (by rintro (⟨_, h⟩ | ⟨_, h⟩) <;> cases h))
    refine ⟨d, _, hd5, trivial, fun od => ?_⟩
    have hd6 : (upd H5 d (.frz od (.dT kvs))) d = some (.frz od (.dT kvs)) := upd_same
    refine ⟨_, rfl, d, od, kvs, rfl, hd6, fun L hL => ?_⟩
    have nL : d ≠ L := ne_of_none hd6 hL
    have hLn : H5 L = none := none_of_but But.at (Ne.symm nL) hL
    refine itemT_turns (fun i H' => But d H5 H' ∧ H' d = some (.frz od (.dT kvs)) ∧ ∃ ks, H' L = some (.dT ks) ∧ (ks.map (·.2)).Nodup ∧ A2 (En2 (nwx H5 L H') H') ks (D.bo.take i)) ⟨But.at.trans (.same (same_new hL _)), by rw [upd_ne nL]; exact hd6, [], upd_same, List.nodup_nil, .nil⟩ (fun i H' h => h.2.1) ?_ ?_
    · rintro i k x qa Tt H' hi hq hTn ⟨b1, e1, ks, e2, nks, as⟩
      obtain ⟨eb, hbi, ek, hx⟩ := ha5.get hi
      dsimp only at ek hx
      subst ek
      have s1 := same_new hTn (.tup [V.ref qa, x])
      have kp : Kp H5 (upd H' Tt (.tup [V.ref qa, x])) := (b1.kp hd5 nf_dT).trans (.same s1)
      obtain ⟨t, xs2, rfl, ht, at2⟩ := hx.mono kp
      refine ⟨Tt, _, rfl, SqT.of upd_same, rfl, _, _, rfl, _, _, rfl, rfl, rfl, _, rfl, _, rfl, t, _, rfl, .inl (SqL.of ht), fun l hl => ?_⟩
      have s2 := same_new hl (.lst xs2)
      have hil : i < D.bo.length := (List.getElem?_eq_some_iff.mp hbi).1
      have hks : ks.length < 100 := by
        rw [as.len, List.length_take]
        have := hW.many
        omega
      refine ⟨ks, _, qa, rfl, s2 _ _ (s1 _ _ hq), s2 _ _ (s1 _ _ e2), Nat.lt_of_lt_of_le hks (by decide), ?_⟩
      have nl : l ≠ L := (ne_of_none (s1 _ _ e2) hl).symm
      have hvn : valV ks (kI eb.1) = none := valV_noneP fun e he c => by
        obtain ⟨y, hy1, hy2, _⟩ := as.mem he
        rw [hy2] at c
        have c := kI_inj c
        obtain ⟨j, hj⟩ := List.getElem?_of_mem hy1
        have hjl : j < i := by
          have := (List.getElem?_eq_some_iff.mp hj).1
          rw [List.length_take] at this
          omega
        rw [List.getElem?_take_of_lt hjl] at hj
        have sr := List.pairwise_iff_getElem.mp hW.srt j i (by rw [List.length_map]; omega) (by rw [List.length_map]; exact hil) hjl
        rw [List.getElem_map, List.getElem_map, (List.getElem?_eq_some_iff.mp hj).2, (List.getElem?_eq_some_iff.mp hbi).2] at sr
        exact sr c
      rw [putK_new _ hvn]
      have s12' := s1.trans s2
      have kpl : Kp (upd (upd H' Tt (.tup [V.ref qa, V.ref t])) l (.lst xs2)) (upd (upd (upd H' Tt (.tup [V.ref qa, V.ref t])) l (.lst xs2)) L (.dT (ks ++ [(kI eb.1, V.ref l)]))) := .put (s12' _ _ e2) nf_dT
      refine ⟨(b1.trans (.same s12')).new hLn, by rw [upd_ne nL]; exact s12' _ _ e1, _, upd_same, ?_, ?_⟩
      · rw [List.map_append, List.nodup_append]
        refine ⟨nks, by simp, fun y hy' w' hw c => ?_⟩
        obtain ⟨e, he, rfl⟩ := List.mem_map.mp hy'
        obtain ⟨_, _, _, t', xs', et', ht', _⟩ := as.mem he
        rw [List.mem_singleton.mp hw, et'] at c
        injection c with c
        have h' := (nwx_some ht').2.2
        rw [c] at h'
        rw [s1 _ _ h'] at hl
        cases hl
      rw [take_get hbi]
      refine A2.snoc (as.imp fun _ _ r => r.mono (kp_nwx_but ((But.same s12').trans But.at)) ((Kp.same s12').trans kpl)) ⟨rfl, l, xs2, rfl, nwx_put ?_ nl ?_, at2.imp fun _ _ r => r.mono ((Kp.same s2).trans kpl)⟩
      · refine none_of_but (b1.trans (.same s1)) (fun c => ?_) hl
        subst c
        rw [s1 _ _ e1] at hl
        cases hl
      · rw [upd_ne nl]; exact upd_same
    · rintro H6 ⟨b1, e1, ks, e2, nks, as⟩
      rw [ha5.len, List.take_length] at as
      have s6 : Same H5 (upd H6 d (.dT kvs)) := b1.unlock hd5
      generalize hH7 : upd H6 d (.dT kvs) = H7 at s6
      have e27 : H7 L = some (.dT ks) := by rw [← hH7, upd_ne (Ne.symm nL)]; exact e2
      have kp67 : Kp H6 H7 := by rw [← hH7]; exact .put e1 nf_frz
      refine ⟨e1, ?_⟩
      have hp7 := s6 _ _ hp5
      refine ⟨_, rfl, p, C, dx, _, rfl, hp7, Z.cl, Z.nB, (by show 1 < 1000; decide), ?_⟩
      have npL : L ≠ p := fun c => by subst c; rw [hp5] at hLn; cases hLn
      have nLp : H L = none := none_of_but b5 npL hLn
      have b7 : But p H (upd H7 p (.ins C dx (flds D1 L))) := (b5.trans (.same s6)).trans But.at
      refine q _ b7 ⟨dx, D1, L, ks, upd_same, al_of (nwx_put hD1n npD1 ?_) (ay5.imp fun _ _ r => r.mono (kp_nwx_but ((But.same s6).trans But.at))), nLp, nks, ?_, as.imp fun _ _ r => r.mono (fun b o _ h => ?_) ?_⟩
      · rw [upd_ne npD1]; exact s6 _ _ hD15
      · rw [upd_ne npL]; exact e27
      · obtain ⟨h1, h2, h3⟩ := nwx_some h
        have hb : b ≠ p := fun c => by subst c; rw [hp5] at h1; cases h1
        have hbd : b ≠ d := fun c => by subst c; rw [hd5] at h1; cases h1
        refine nwx_put (none_of_but b5 hb h1) hb ?_
        rw [upd_ne hb, ← hH7, upd_ne hbd]
        exact h3
      · exact kp67.trans (.put hp7 (by rintro (⟨_, h⟩ | ⟨_, h⟩) <;> cases h))
end
end TA

set_option Elab.async false
set_option maxRecDepth 100000
set_option maxHeartbeats 4000000
namespace TA
open PySem L2 PyProof.Rows
set_option linter.unusedVariables false
theorem inV_int (x : Int) (fs : List Int) : inV (.int x) (fs.map V.int) = decide (x ∈ fs) := by
  induction fs with
  | nil => rfl
  | cons y r ih =>
    show (eqV (.int y) (.int x) || inV (.int x) (r.map V.int)) = _
    rw [ih]
    by_cases c : y = x
    · subst c
      rw [show eqV (.int y) (.int y) = true from by simp [eqV]]
      simp
    · rw [show eqV (.int y) (.int x) = false from by simp [eqV, c]]
      by_cases m : x ∈ r
      · simp [m]
      · have : ¬ x = y := fun e => c e.symm
        simp [m, this]
theorem flat_ints (fs : List Int) : (fs.map V.int).all flatV = true := by
  rw [List.all_eq_true]
  intro v hv
  obtain ⟨x, _, rfl⟩ := List.mem_map.mp hv
  rfl
def hasK (bo : BD) (xy : Int × Int) : Bool := bo.any fun e => decide (iI e.1 = xy)
theorem hasK_yes {bo : BD} {e : IP × List (Int × Int)} (h : e ∈ bo) : hasK bo (iI e.1) = true := List.any_eq_true.mpr ⟨e, h, decide_eq_true rfl⟩
def k2 (xy : Int × Int) : List Key := [.inl xy.1, .inl xy.2]
theorem k2_iff {p : IP} {xy : Int × Int} : kI p = k2 xy ↔ iI p = xy := by
  unfold kI k2 iI
  constructor
  · intro h
    injection h with h1 h2
    injection h2 with h2 _
    injection h1 with h1
    injection h2 with h2
    exact Prod.ext h1 h2
  · intro h
    rw [← h]
theorem some_hasK {H : Hp} : ∀ {kvs : List (List Key × V)} {bo : BD}, A2 (EnAt H) kvs bo → ∀ xy, (valV kvs (k2 xy)).isSome = hasK bo xy
  | _, _, .nil, _ => rfl
  | (k, v) :: kvs, b :: bo, .cons a r, xy => by
    obtain ⟨ek, _⟩ := a
    dsimp only at ek
    subst ek
    show _ = (decide (iI b.1 = xy) || hasK bo xy)
    by_cases c : iI b.1 = xy
    · rw [valV_pos (k2_iff.mpr c), decide_eq_true c]
      rfl
    · rw [valV_neg (fun h => c (k2_iff.mp h)), some_hasK r xy, decide_eq_false c, Bool.false_or]
theorem iI_inj {p q : IP} (h : iI p = iI q) : p = q := by
  unfold iI at h
  injection h with h1 h2
  exact Prod.ext (by omega) (by omega)
/-- what the dict holds at a pair that comes -/
theorem val_at {H : Hp} : ∀ {kvs : List (List Key × V)} {bo : BD}, A2 (EnAt H) kvs bo → (bo.map (·.1)).Pairwise (· ≠ ·) → ∀ e ∈ bo, ∃ v, valV kvs (kI e.1) = some v ∧ LetAt H v e.2
  | _, _, .nil, _, e, m => by cases m
  | (k, v) :: kvs, b :: bo, .cons a r, s, e, m => by
    obtain ⟨ek, hl⟩ := a
    dsimp only at ek hl
    subst ek
    rw [List.map_cons, List.pairwise_cons] at s
    rcases List.mem_cons.mp m with rfl | m
    · exact ⟨v, valV_pos rfl, hl⟩
    · rw [valV_neg (fun h => s.1 _ (List.mem_map.mpr ⟨e, m, rfl⟩) (kI_inj h))]
      exact val_at r s.2 e m
/-- the pairs in order -/
def leN (p q : IP × List (Int × Int)) : Bool := decide (p.1.1 < q.1.1 ∨ (p.1.1 = q.1.1 ∧ p.1.2 ≤ q.1.2))
def sb (T : TD) : BD := T.bo.mergeSort leN
theorem sb_perm (T : TD) : (sb T).Perm T.bo := List.mergeSort_perm _ _
theorem sb_mem {T : TD} {e : IP × List (Int × Int)} : e ∈ sb T ↔ e ∈ T.bo := (sb_perm T).mem_iff
theorem sb_sorted (T : TD) : (sb T).Pairwise fun a b => leN a b = true := by
  refine List.pairwise_mergeSort (fun a b c h1 h2 => ?_) (fun a b => ?_) _
  · have h1 := of_decide_eq_true h1
    have h2 := of_decide_eq_true h2
    refine decide_eq_true ?_
    omega
  · unfold leN
    rw [Bool.or_eq_true, decide_eq_true_eq, decide_eq_true_eq]
    omega
def rowB (d : PyData) (m : Nat) : Bool := match d with
  | .list ds => decide (ds.length = m) && (ds.map outB).all id
  | _ => false
def chosenB (d : PyData) (n0 n1 : Nat) : Bool := match d with
  | .list [d0, d1] => rowB d0 n0 && rowB d1 n1
  | _ => false
def okA (T : TD) (ch : Nat → List Int) (h a : Nat) : Prop := (ch h).getD a 0 ∈ (T.al h).getD a []
instance {T : TD} {ch : Nat → List Int} {h a : Nat} : Decidable (okA T ch h a) := by unfold okA; exact inferInstance
def spInputs (K : PySem.W.Frag) (C : Addr) : Sp := fun vs H Q _ => ∃ (p : Addr) (h : Nat) (T : TD), vs = [.ref p, .int (h : Int)] ∧ h < 2 ∧ TaskR C H p T ∧ Q (.int ((T.al h).length : Int)) H
def spPairs (K : PySem.W.Frag) (C : Addr) : Sp := fun vs H Q _ => ∃ (p : Addr) (T : TD), vs = [.ref p] ∧ TaskAt C H p T ∧ WF T ∧ ∀ (r : Addr) (xs : List V), H r = none → A2 (TpAt H) xs ((sb T).map fun e => iI e.1) → Q (.ref r) (upd H r (.lst xs))
def spPair (K : PySem.W.Frag) (C : Addr) : Sp := fun vs H Q _ => ∃ (p : Addr) (v : V) (T : TD) (xy : Int × Int), vs = [.ref p, v] ∧ TaskR C H p T ∧ WF T ∧ TpAt H v xy ∧ ∀ H', Same H H' → Q (.bl (hasK T.bo xy)) H'
def spRow (K : PySem.W.Frag) : Sp := fun vs H Q _ => ∃ (v : V) (d : PyData) (m : Nat), vs = [v, .int (m : Int)] ∧ Dp K H v d ∧ small d ∧ ∀ H', Same H H' → Q (.bl (rowB d m)) H'
def spChosen (K : PySem.W.Frag) (C : Addr) : Sp := fun vs H Q _ => ∃ (p : Addr) (v : V) (d : PyData) (T : TD), vs = [.ref p, v] ∧ TaskR C H p T ∧ Dp K H v d ∧ (∀ ds, d = .list ds → ∀ e ∈ ds, small e) ∧ ∀ H', Same H H' → Q (.bl (chosenB d (T.al 0).length (T.al 1).length)) H'
/-- what alone_fault tells -/
def AloneRes (T : TD) (ch : Nat → List Int) (fv : V) (H' : Hp) : Prop := (fv = .non ∧ ∀ h a, h < 2 → a < (T.al h).length → okA T ch h a) ∨
  ∃ r h a, fv = .ref r ∧ H' r = some (.tup [.str "alone", .int ((h : Nat) : Int), .int ((a : Nat) : Int)]) ∧ h < 2 ∧ a < (T.al h).length ∧ ¬ okA T ch h a ∧ ∀ h' a', h' < 2 → a' < (T.al h').length → (h' < h ∨ (h' = h ∧ a' < a)) → okA T ch h' a'
def spAloneF (K : PySem.W.Frag) (C : Addr) : Sp := fun vs H Q _ => ∃ (p : Addr) (v : V) (T : TD) (ch : Nat → List Int), vs = [.ref p, v] ∧ TaskAt C H p T ∧ WF T ∧ RowsAt H v [ch 0, ch 1] ∧ (∀ h, h < 2 → (ch h).length = (T.al h).length) ∧
  ∀ fv H', Same H H' → AloneRes T ch fv H' → Q fv H'
section
variable {P : Program} {w : World} {K : PySem.W.Frag} {mg : Str → Option Value} {base : Heap}
abbrev nInputs : List Str := ["self", "hand"]
theorem sc_inputs : FnScope nInputs nInputs (defScope s_inputs) := ⟨rfl, rfl, rfl, by decide +kernel, rfl, by decide +kernel, by decide +kernel⟩
theorem within_hand {h : Nat} (hh : h < 2) : within (.int (h : Int)) 0 1 = true := by
  show decide ((0 : Int) ≤ (h : Int) ∧ (h : Int) ≤ 1) = true
  exact decide_eq_true (by omega)
theorem ok_inputs {f g C : Addr} {fd gd : FuncData} (F : Fun K "inputs" "Task.inputs" s_inputs f fd) (T : Txt K mg) (Z : TxtC K mg C) (WH : Def P w K mg base "is_hand" ["thing"] 3 (spHandG K) g gd) : FnOk P w K mg base CX0 4 f fd nInputs (spInputs K C) := by
  refine F.ok sc_inputs (fun vs H Q E h => ?_) (fun cdv A outer s H vs Q E hr h => ?_)
  · obtain ⟨p, h, D, rfl, _⟩ := h
    rfl
  obtain ⟨p, h, D, rfl, hh, hT, q⟩ := h
  refine ⟨_, (pss_cons (ps_if (pt_not (pt_val (pe_call WH.G (hr.mono (by decide)) rfl WH.m WH.k WH.b .nil pass0 (pa_cons (pv 1) pa_nil))))
      pss_never
      pss_nil)
    (pss_one (ps_ret (pe_callB call_len_seq (by rfl) T.len PySem.boot_len (pa_cons (pe_ix ix_list (pe_fld (pv 0) rfl) (pv 1) (fun _ _ => rfl)) pa_nil))))), ?_⟩
  obtain ⟨dx, a, d, hp, hA, _⟩ := hT
  obtain ⟨t, x0, x1, e, ht, hrow⟩ := hA.row
  obtain rfl : a = t := by injection e
  obtain ⟨x, hx, r, xs, rfl, hr2, ha2⟩ := hrow h hh
  refine ⟨_, rfl, _, _, rfl, .int _, ?_⟩
  rw [within_hand hh]
  refine ⟨true, rfl, iteF ?_⟩
  refine ⟨_, rfl, p, C, dx, _, _, rfl, hp, Z.cl, Z.nA, flds_alone _ _, _, rfl, a, _, _, _, rfl, rfl, SqL.of ht, atI_nat hx, r, xs, rfl, .inl (SqL.of hr2), ?_⟩
  rw [ha2.len]
  exact q
abbrev nPairs : List Str := ["self"]
theorem sc_pairs : FnScope nPairs nPairs (defScope s_pairs) := ⟨rfl, rfl, rfl, by decide +kernel, rfl, by decide +kernel, by decide +kernel⟩
theorem keys_sorted {T : TD} (W : WF T) {L : List (Addr × List Int)} (h1 : (L.map (·.2)).Perm (T.bo.map fun e => [((e.1.1 : Nat) : Int), ((e.1.2 : Nat) : Int)])) (h2 : L.Pairwise (fun q r => TS.code 64 q.2 ≤ TS.code 64 r.2)) :
    L.map (·.2) = (sb T).map fun e => [((e.1.1 : Nat) : Int), ((e.1.2 : Nat) : Int)] := by
  have n0 := (W.n0 0 (by decide)).2
  have n1 := (W.n0 1 (by decide)).2
  have bd : ∀ x ∈ T.bo.map (fun e => [((e.1.1 : Nat) : Int), ((e.1.2 : Nat) : Int)]), ∃ a b : Nat, a < 20 ∧ b < 20 ∧ x = [(a : Int), (b : Int)] := fun x hx => by
    obtain ⟨e, he, rfl⟩ := List.mem_map.mp hx
    have := W.rng e he
    exact ⟨e.1.1, e.1.2, by omega, by omega, rfl⟩
  have hp := (sb_perm T).map (fun e => [((e.1.1 : Nat) : Int), ((e.1.2 : Nat) : Int)])
  have h3 := h1.trans hp.symm
  refine List.Perm.eq_of_pairwise (le := fun a b => TS.code 64 a ≤ TS.code 64 b) (fun a b ha hb h h' => ?_) (List.pairwise_map.mpr h2) ?_ h3
  · obtain ⟨a1, a2, _, _, rfl⟩ := bd a (h1.mem_iff.mp ha)
    obtain ⟨b1, b2, _, _, rfl⟩ := bd b (hp.mem_iff.mp hb)
    rw [code_pair, code_pair] at h h'
    have e1 : a1 = b1 := by omega
    have e2 : a2 = b2 := by omega
    rw [e1, e2]
  · rw [List.pairwise_map]
    refine (sb_sorted T).imp_of_mem fun {a b} ha hb h => ?_
    have := W.rng a (sb_mem.mp ha)
    have := W.rng b (sb_mem.mp hb)
    rw [code_pair, code_pair]
    have h := of_decide_eq_true h
    rcases h with h | ⟨h, h'⟩
    · omega
    · omega
theorem ok_pairs {f C : Addr} {fd : FuncData} (F : Fun K "pairs" "Task.pairs" s_pairs f fd) (T2 : Txt2 K mg) (Z : TxtC K mg C) : FnOk P w K mg base CX0 1 f fd nPairs (spPairs K C) := by
  refine F.ok sc_pairs (fun vs H Q E h => ?_) (fun cdv A outer s H vs Q E hr h => ?_)
  · obtain ⟨p, D, rfl, _⟩ := h
    rfl
  obtain ⟨p, D, rfl, hT, hW, q⟩ := h
  refine ⟨_, (pss_one (ps_ret (pe_callB (cr_sortedDT (d := 2) (B := 64) (by decide) rfl) (by rfl) T2.sorted (by decide +kernel) (pa_cons (pe_fld (pv 0) rfl) pa_nil)))), ?_⟩
  obtain ⟨dx, a, d, hp, hA, kvs, hd, ha⟩ := hT
  refine ⟨_, rfl, p, C, dx, _, _, rfl, hp, Z.cl, Z.nB, flds_both _ _, d, kvs, D.bo.map (fun e => [((e.1.1 : Nat) : Int), ((e.1.2 : Nat) : Int)]), rfl, .inl hd, ?_, ?_, ?_, fun L r h1 h2 h3 hr0 => ?_⟩
  · rw [keys_of ha, List.map_map, List.map_map]
    rfl
  · rw [List.length_map]
    have := hW.many
    omega
  · intro ns hns
    obtain ⟨e, he, rfl⟩ := List.mem_map.mp hns
    have := hW.rng e he
    have := (hW.n0 0 (by decide)).2
    have := (hW.n0 1 (by decide)).2
    refine ⟨rfl, fun m hm => ?_⟩
    rcases List.mem_cons.mp hm with rfl | hm
    · omega
    · obtain rfl := List.mem_singleton.mp hm
      omega
  · refine q r _ hr0 ?_
    have e := keys_sorted hW h1 h2
    clear h1 h2 q
    generalize sb D = bo at e
    induction L generalizing bo with
    | nil =>
      cases bo with
      | nil => exact .nil
      | cons _ _ => cases e
    | cons x L ih =>
      cases bo with
      | nil => cases e
      | cons b bo =>
        rw [List.map_cons, List.map_cons] at e
        injection e with e1 e2
        refine .cons ⟨x.1, rfl, ?_⟩ (ih (fun y hy => h3 y (List.mem_cons_of_mem _ hy)) bo e2)
        rw [h3 x List.mem_cons_self, e1]
        rfl
end
end TA

set_option Elab.async false
set_option maxRecDepth 100000
set_option maxHeartbeats 4000000
namespace TA
open PySem L2 PyProof.Rows
set_option linter.unusedVariables false
def WellAt (H : Hp) (a : Addr) (n : Int) : Prop := ∃ x y z : Int, H a = some (.lst [.int x, .int y, .int z]) ∧ 0 ≤ x ∧ 0 ≤ y ∧ y < 2147483647 ∧ 0 ≤ z ∧ z ≤ n
theorem WellAt.same {H H' : Hp} {a : Addr} {n : Int} (s : Same H H') (w : WellAt H a n) : WellAt H' a n := by
  obtain ⟨x, y, z, h, r⟩ := w
  exact ⟨x, y, z, s _ _ h, r⟩
theorem join3 {b : Bool} {X : Prop} {R : L2.St → Hp → Prop} {σ : L2.St} {H : Hp} (Iv : L2.St → Hp → Prop) (h0 : b = false → Iv σ H) (k : ∀ σ Hc, Iv σ Hc → R σ Hc) (h1 : b = true → (∀ σ Hc, Iv σ Hc → R σ Hc) → X) : if b = true then X else R σ H := by
  cases b with
  | false => exact iteF (k σ H (h0 rfl))
  | true => exact iteT (h1 rfl k)
def spCell (K : PySem.W.Frag) : Sp := fun vs H Q _ => ∃ (a : Addr) (ns : List Int) (k : Int), vs = [.ref a, .int k] ∧ SqL K H a (ns.map V.int) ∧ ns.length ≤ 1000 ∧ 0 ≤ k ∧ ∀ c : Int, Q (.int c) H
def spDigit : Sp := fun vs H Q _ => ∃ (a : Addr) (n m : Int), vs = [.ref a, .int m] ∧ ((∃ x : Int, H a = some (.lst [.int x])) ∨ WellAt H a n) ∧ 0 ≤ n ∧ n < 999999 ∧ 0 < m ∧ m < 1000 ∧ ∀ (r : Int) (H' : Hp), 0 ≤ r → r < m → But a H H' → WellAt H' a (n + 1) → Q (.int r) H'
theorem WellAt.but {H H' : Hp} {a d : Addr} {n : Int} (w : WellAt H a n) (ne : a ≠ d) (s : But d H H') : WellAt H' a n := by
  obtain ⟨x, y, z, h, r⟩ := w
  exact ⟨x, y, z, s _ _ ne h, r⟩
theorem WellAt.up {H : Hp} {a : Addr} {n m : Int} (w : WellAt H a n) (h : n ≤ m) : WellAt H a m := by
  obtain ⟨x, y, z, h0, a1, a2, a3, a4, a5⟩ := w
  exact ⟨x, y, z, h0, a1, a2, a3, a4, by omega⟩
theorem WellAt.ne {H : Hp} {a b : Addr} {n : Int} (w : WellAt H a n) (h : H b = none) : a ≠ b := by
  obtain ⟨x, y, z, h0, _⟩ := w
  exact ne_of_none h0 h
/-- a well that is drawn from, or not yet -/
def Dr (H : Hp) (a : Addr) (n : Int) : Prop := (∃ x : Int, H a = some (.lst [.int x])) ∨ WellAt H a n
def spFew : Sp := fun vs H Q _ => ∃ (a : Addr) (n g m : Int), vs = [.ref a, .int g, .int m] ∧ Dr H a n ∧ 0 ≤ n ∧ n < 999900 ∧ 0 < g ∧ g < 64 ∧ 0 < m ∧ m ≤ 4 ∧
  ∀ (p : Addr) (ns : List Int) (H' : Hp), But a H H' → H p = none → H' p = some (.lst (ns.map V.int)) → WellAt H' a (n + 5) → 1 ≤ ns.length → ns.length ≤ 4 → ns.Pairwise (· < ·) → (∀ x ∈ ns, 0 ≤ x ∧ x < g) → Q (.ref p) H'
section
variable {P : Program} {w : World} {K : PySem.W.Frag} {mg : Str → Option Value} {base : Heap}
theorem scCell : FnScope ["_law_script", "_law_k"] ["_law_script", "_law_k"] (defScope sCell) := ⟨rfl, rfl, rfl, by decide +kernel, rfl, by decide +kernel, by decide +kernel⟩
theorem ok_cell {f : Addr} {fd : FuncData} (F : Fun K "_law_cell_at" "_law_cell_at" sCell f fd) (T : Txt K mg) : FnOk P w K mg base CX0 1 f fd ["_law_script", "_law_k"] (spCell K) := by
  refine F.ok scCell (fun vs H Q E h => ?_) (fun cdv A outer s H vs Q E hr h => ?_)
  · obtain ⟨a, ns, k, rfl, _⟩ := h
    rfl
  obtain ⟨a, ns, k, rfl, hS, hn, hk, q⟩ := h
  refine ⟨_, pss_cons (ps_if (pt_cmpR op_lt (pv 1) (pe_callB call_len_seq (by rfl) T.len PySem.boot_len (pa_cons (pv 0) pa_nil)) (nomark _)) (pss_one (ps_ret (pe_ix ix_list (pv 0) (pv 1) (fun _ _ => rfl)))) pss_nil)
    (pss_one (ps_ret pe_int)), ?_⟩
  refine ⟨_, rfl, _, rfl, a, _, rfl, .inl hS, _, _, rfl, rfl, _, rfl, ?_⟩
  refine ite2 (fun c => ?_) (fun c => ?_)
  · have c' : k < (((ns.map V.int).length : Nat) : Int) := of_decide_eq_true c
    rw [List.length_map] at c'
    have hk' : k.toNat < ns.length := by omega
    have ek : k = ((k.toNat : Nat) : Int) := by omega
    have g : atI (ns.map V.int) ((k.toNat : Nat) : Int) = some (.int ns[k.toNat]) := atI_nat (by rw [List.getElem?_map, List.getElem?_eq_getElem hk'] <;> rfl)
    rw [← ek] at g
    exact ⟨_, rfl, _, rfl, a, _, _, _, rfl, rfl, hS, g, q _⟩
  · exact q 0
theorem scDigit : FnScope ["_law_state", "_law_base", "_law_cell", "_law_found", "_law_number"] ["_law_state", "_law_base"] (defScope s__law_digit) := ⟨rfl, rfl, rfl, by decide +kernel, rfl, by decide +kernel, by decide +kernel⟩
theorem ok_digit {f : Addr} {fd : FuncData} (F : Fun K "_law_digit" "_law_digit" s__law_digit f fd) (T : Txt K mg) : FnOk P w K mg base CX0 1 f fd ["_law_state", "_law_base"] spDigit := by
  refine F.ok scDigit (fun vs H Q E h => ?_) (fun cdv A outer s H vs Q E hr h => ?_)
  · obtain ⟨a, n, m, rfl, _⟩ := h
    rfl
  obtain ⟨a, n, m, rfl, hst, hn0, hn, hm, hm2, q⟩ := h
  have nd := scDigit.nd
  have ix : ∀ {X : Cx} {e1 e2 : Expr} {t1 t2 : TE} {p : Pos}, PE X e1 t1 → PE X e2 t2 → PlainIx e2 → PE X (.Subscript e1 e2 p) (tOp (rIxL X.K) t1 t2) := fun h1 h2 h3 => pe_ix ix_list h1 h2 h3
  refine ⟨_, pss_cons (ps_if (pt_cmpR op_eq (pe_callB call_len_seq (by rfl) T.len PySem.boot_len (pa_cons (pv 0) pa_nil)) pe_int (nomark _))
      (pss_cons (ps_set (i := 2) nd rfl (Or.inl rfl) (pe_ix ix_list (pv 0) pe_int (fun _ _ => rfl)))
      (pss_cons (ps_asg (pe_ix ix_list (pe_lst (pa_cons pe_int (pa_cons (pv 2) pa_nil))) (pe_callTy call_int1 (by rfl) T.int boot_int (pa_cons (pe_cmpR op_ge (pv 2) (pe_op op_pow pe_int pe_int) (nomark _)) pa_nil)) (fun _ _ => rfl)) (pg_sub (pv 0) pe_int set_list))
      (pss_one (ps_expr (pe_bm PySem.F.plainAttrs_list PySem.F.slot_list_extend PySem.F.type_list_extend mt_extend (pv 0) (pa_cons (pe_lst (pa_cons (pe_op op_mod (pv 2) pe_int) (pa_cons pe_int pa_nil))) pa_nil)))))) pss_nil)
    (pss_cons (ps_if (pt_cmpR op_gt (pe_ix ix_list (pv 0) pe_int (fun _ _ => rfl)) pe_int (nomark _))
      (pss_cons (ps_set (i := 3) nd rfl (Or.inl rfl) (pe_op op_mod (pe_ix ix_list (pv 0) pe_int (fun _ _ => rfl)) (pv 1)))
      (pss_cons (ps_asg (pe_op op_fdiv (pe_ix ix_list (pv 0) pe_int (fun _ _ => rfl)) (pv 1)) (pg_sub (pv 0) pe_int set_list))
      (pss_one (ps_ret (pv 3))))) pss_nil)
    (pss_cons (ps_asg (pe_op op_add (pe_ix ix_list (pv 0) pe_int (fun _ _ => rfl)) pe_int) (pg_sub (pv 0) pe_int set_list))
    (pss_cons (ps_set (i := 4) nd rfl (Or.inl rfl) (pe_op op_mod (pe_op op_mul (pe_op op_add (pe_op op_add (pe_ix ix_list (pv 0) pe_int (fun _ _ => rfl)) (pe_op op_mul pe_int (pe_ix ix_list (pv 0) pe_int (fun _ _ => rfl)))) pe_int) pe_int) pe_int))
    (pss_cons (ps_set (i := 4) nd rfl (Or.inl rfl) (pe_op op_mod (pe_op op_mul (pv 4) (pe_op op_add (pe_op op_fdiv (pv 4) pe_int) pe_int)) pe_int))
    (pss_one (ps_ret (pe_op op_mod (pe_op op_mod (pe_op op_mul (pv 4) (pe_op op_add (pe_op op_fdiv (pv 4) pe_int) pe_int)) pe_int) (pv 1)))))))), ?_⟩
  obtain ⟨xs, hxs, hlen⟩ : ∃ xs, H a = some (.lst xs) ∧ ((xs.length = 1 ∧ ∃ x : Int, xs = [.int x]) ∨ (xs.length = 3 ∧ WellAt H a n)) := by
    rcases hst with ⟨x, h⟩ | ⟨x, y, z, h, r⟩
    · exact ⟨_, h, .inl ⟨rfl, x, rfl⟩⟩
    · exact ⟨_, h, .inr ⟨rfl, x, y, z, h, r⟩⟩
  refine ⟨_, rfl, a, xs, rfl, .inl (SqL.of hxs), rfl, _, rfl, ?_⟩
  refine join3 (fun σ Hc => ∃ g, σ = [some (.ref a), some (.int m), g, none, none] ∧ But a H Hc ∧ WellAt Hc a n) ?_ ?_ ?_
  · intro hb
    rcases hlen with ⟨h1, _⟩ | ⟨_, hw⟩
    · rw [h1] at hb
      cases hb
    · exact ⟨none, rfl, fun b o _ e => e, hw⟩
  · rintro σ Hc ⟨g, rfl, b, x, y, z, hL, hx, hy, hy2, hz, hz2⟩
    refine ⟨_, rfl, a, _, _, _, rfl, rfl, SqL.of hL, rfl, _, _, rfl, rfl, _, rfl, ?_⟩
    refine ite2 (fun c => ?_) (fun c => ?_)
    · refine ⟨_, rfl, a, _, _, _, rfl, rfl, SqL.of hL, rfl, _, rfl, _, _, rfl, rfl, hm, ?_⟩
      refine ⟨_, rfl, a, _, _, _, rfl, rfl, SqL.of hL, rfl, _, rfl, _, _, rfl, rfl, ⟨hm, by omega⟩, ?_⟩
      refine ⟨_, rfl, a, _, _, 0, rfl, rfl, hL, rfl, _, rfl, ?_⟩
      exact q _ _ (Int.emod_nonneg _ (by omega)) (Int.emod_lt_of_pos _ hm) (b.trans But.at) ⟨_, y, z, upd_same, Int.ediv_nonneg hx (by omega), hy, hy2, hz, by omega⟩
    · have hL2 : (upd Hc a (.lst [.int x, .int y, .int (z + 1)])) a = some (.lst [.int x, .int y, .int (z + 1)]) := upd_same
      refine ⟨_, rfl, a, _, _, _, rfl, rfl, SqL.of hL, rfl, _, _, rfl, rfl, ?_⟩
      refine ⟨_, rfl, a, _, _, 2, rfl, rfl, hL, rfl, ?_⟩
      refine ⟨_, rfl, a, _, _, _, rfl, rfl, SqL.of hL2, rfl, _, rfl, a, _, _, _, rfl, rfl, SqL.of hL2, rfl, _, _, rfl, rfl, .inl ⟨by decide, by decide⟩, _, _, rfl, rfl, _, _, rfl, rfl, _, _, rfl, rfl, .inr ⟨by decide, by decide⟩, _, _, rfl, rfl, (by show (0 : Int) < 2147483647; decide), ?_⟩
      have n0 := Int.emod_nonneg ((y + 7919 * (z + 1) + 1) * 48271) (show (2147483647 : Int) ≠ 0 by decide)
      have n1 := Int.emod_lt_of_pos ((y + 7919 * (z + 1) + 1) * 48271) (show (0 : Int) < 2147483647 by decide)
      generalize ((y + 7919 * (z + 1) + 1) * 48271) % 2147483647 = i at n0 n1 ⊢
      refine ⟨_, rfl, _, rfl, _, _, rfl, rfl, ⟨by decide, by decide⟩, _, _, rfl, rfl, _, _, rfl, rfl, .inl ⟨by omega, by omega⟩, _, _, rfl, rfl, (by show (0 : Int) < 2147483647; decide), ?_⟩
      have k0 := Int.emod_nonneg (i * (i / 1009 + 69621)) (show (2147483647 : Int) ≠ 0 by decide)
      have k1 := Int.emod_lt_of_pos (i * (i / 1009 + 69621)) (show (0 : Int) < 2147483647 by decide)
      generalize (i * (i / 1009 + 69621)) % 2147483647 = j at k0 k1 ⊢
      refine ⟨_, rfl, _, rfl, _, _, rfl, rfl, ⟨by decide, by decide⟩, _, _, rfl, rfl, _, _, rfl, rfl, .inl ⟨by omega, by omega⟩, _, _, rfl, rfl, (by show (0 : Int) < 2147483399; decide), _, rfl, _, _, rfl, rfl, hm, ?_⟩
      exact q _ _ (Int.emod_nonneg _ (by omega)) (Int.emod_lt_of_pos _ hm) (b.trans But.at) ⟨x, y, z + 1, upd_same, hx, hy, hy2, by omega, by omega⟩
  · intro hb k
    obtain ⟨x, rfl⟩ : ∃ x : Int, xs = [.int x] := by
      rcases hlen with ⟨_, h⟩ | ⟨h3, _⟩
      · exact h
      · rw [h3] at hb
        cases hb
    refine ⟨_, rfl, a, _, _, _, rfl, rfl, SqL.of hxs, rfl, ?_⟩
    refine ⟨_, rfl, (by show 2 ≤ sizeLine; decide), fun l hl => ?_⟩
    have s1 := same_new hl (.lst [V.int 0, V.int x])
    refine ⟨_, rfl, _, _, rfl, rfl, ⟨by decide, by decide, by decide⟩, _, _, rfl, rfl, .inr ⟨_, rfl, ?_⟩⟩
    obtain ⟨y, hy, y0⟩ : ∃ y : Int, atI [V.int 0, V.int x] (if decide (x ≥ 10 ^ (18 : Int).toNat) = true then 1 else 0) = some (.int y) ∧ 0 ≤ y := by
      by_cases c : x ≥ 10 ^ (18 : Int).toNat
      · rw [decide_eq_true c]
        have : (0 : Int) ≤ 10 ^ (18 : Int).toNat := by decide
        exact ⟨x, rfl, by omega⟩
      · rw [decide_eq_false c]
        exact ⟨0, rfl, Int.le_refl 0⟩
    refine ⟨l, _, _, _, rfl, rfl, SqL.of upd_same, hy, _, rfl, a, [.int x], _, 0, rfl, rfl, s1 _ _ hxs, rfl, ?_⟩
    have hL : (upd (upd H l (.lst [V.int 0, V.int x])) a (.lst ([V.int x].set 0 (.int y)))) a = some (.lst [.int y]) := upd_same
    refine ⟨_, rfl, .inl ⟨rfl, _, SqL.of hL⟩, _, rfl, _, _, rfl, rfl, (by show (0 : Int) < 2147483647; decide), (by show 2 ≤ sizeLine; decide), fun l2 hl2 => ?_⟩
    have nl : a ≠ l2 := ne_of_none hL hl2
    refine ⟨a, l2, [.int y], _, rfl, rfl, (by rw [upd_ne nl]; exact hL), upd_same, (by show 3 ≤ sizeLine; decide), ?_⟩
    refine k _ _ ⟨_, rfl, ?_, y, x % 2147483647, 0, upd_same, y0, Int.emod_nonneg _ (by decide), Int.emod_lt_of_pos _ (by decide), Int.le_refl 0, hn0⟩
    exact (((But.same s1).trans But.at).trans (But.same (same_new hl2 _))).trans But.at
end
end TA

set_option Elab.async false
set_option maxRecDepth 100000
set_option maxHeartbeats 4000000
namespace TA
open PySem L2 PyProof.Rows
set_option linter.unusedVariables false
/-! data that may be compared -/
def Ok (n : Nat) (d : PyData) : Prop := d.canLay0 = true ∧ d.depth ≤ n
theorem Ok.shaped {n : Nat} {d : PyData} (h : Ok n d) (e : n ≤ 64) : SeqAt.shaped d = true := by
  unfold SeqAt.shaped
  rw [h.1, decide_eq_true (Nat.le_trans h.2 e)]
  rfl
theorem ok_int {n : Nat} (i : Int) : Ok (n + 1) (.int i) := ⟨by simp [PyData.canLay0], by simp [PyData.depth]⟩
theorem ok_non {n : Nat} : Ok (n + 1) .none := ⟨by simp [PyData.canLay0], by simp [PyData.depth]⟩
theorem ok_all {n : Nat} : ∀ {ds : List PyData}, (∀ d ∈ ds, Ok n d) → PyData.canLayAll0 ds = true ∧ PyData.depthAll ds ≤ n
  | [], _ => ⟨rfl, by simp [PyData.depthAll]⟩
  | d :: ds, q => by
    obtain ⟨a, b⟩ := ok_all (ds := ds) (fun x hx => q x (List.mem_cons_of_mem _ hx))
    obtain ⟨c, e⟩ := q d List.mem_cons_self
    refine ⟨by simp [PyData.canLayAll0, a, c], ?_⟩
    simp only [PyData.depthAll]
    omega
theorem ok_list {n : Nat} {ds : List PyData} (q : ∀ d ∈ ds, Ok n d) : Ok (n + 1) (.list ds) := by
  obtain ⟨a, b⟩ := ok_all q
  refine ⟨by simpa [PyData.canLay0] using a, ?_⟩
  simp only [PyData.depth]
  omega
theorem ok_tuple {n : Nat} {ds : List PyData} (q : ∀ d ∈ ds, Ok n d) : Ok (n + 1) (.tuple ds) := by
  obtain ⟨a, b⟩ := ok_all q
  refine ⟨by simpa [PyData.canLay0] using a, ?_⟩
  simp only [PyData.depth]
  omega
theorem okD_pair (p : Int × Int) : Ok 2 (pairD p) := ok_tuple fun d hd => by
  rcases List.mem_cons.mp hd with rfl | hd
  · exact ok_int _
  · obtain rfl := List.mem_singleton.mp hd
    exact ok_int _
theorem okD_pairs (l : List (Int × Int)) : Ok 3 (.list (l.map pairD)) := ok_list fun d hd => by
  obtain ⟨p, _, rfl⟩ := List.mem_map.mp hd
  exact okD_pair p
theorem eqv_pair (p q : Int × Int) : PyData.eqv (pairD p) (pairD q) = decide (p = q) := by
  show ((p.1 == q.1) && ((p.2 == q.2) && true)) = decide (p = q)
  rw [Bool.and_true]
  by_cases h : p = q
  · subst h
    simp
  · rw [decide_eq_false h]
    by_cases h1 : p.1 = q.1
    · have : ¬ p.2 = q.2 := fun h2 => h (Prod.ext h1 h2)
      simp [this]
    · simp [h1]
/-! == of the data of tasks -/
theorem eqvAll_map {α : Type} [DecidableEq α] (f : α → PyData) (h : ∀ x y, PyData.eqv (f x) (f y) = decide (x = y)) : ∀ xs ys : List α, PyData.eqvAll (xs.map f) (ys.map f) = decide (xs = ys)
  | [], [] => rfl
  | [], _ :: _ => rfl
  | _ :: _, [] => rfl
  | x :: xs, y :: ys => by
    show (PyData.eqv (f x) (f y) && PyData.eqvAll (xs.map f) (ys.map f)) = _
    rw [h, eqvAll_map f h xs ys, ← Bool.decide_and]
    exact decide_eq_decide.mpr ⟨fun ⟨a, b⟩ => by rw [a, b], fun c => by injection c with a b; exact ⟨a, b⟩⟩
theorem eqv_list {α : Type} [DecidableEq α] (f : α → PyData) (h : ∀ x y, PyData.eqv (f x) (f y) = decide (x = y)) (xs ys : List α) : PyData.eqv (.list (xs.map f)) (.list (ys.map f)) = decide (xs = ys) := eqvAll_map f h xs ys
theorem eqv_ints (x y : Int) : PyData.eqv (.int x) (.int y) = decide (x = y) := by
  show (x == y) = _
  exact Bool.beq_eq_decide_eq x y
theorem eqv_row (x y : List Int) : PyData.eqv (rowD x) (rowD y) = decide (x = y) := eqv_list _ eqv_ints x y
theorem eqv_rows (x y : List (List Int)) : PyData.eqv (rowsD x) (rowsD y) = decide (x = y) := eqv_list _ eqv_row x y
theorem eqv_let (x y : List (Int × Int)) : PyData.eqv (letD x) (letD y) = decide (x = y) := eqv_list _ eqv_pair x y
theorem eqv_al (a b : Nat → List (List Int)) : PyData.eqv (alD a) (alD b) = decide (a 0 = b 0 ∧ a 1 = b 1) := by
  show (PyData.eqv (rowsD (a 0)) (rowsD (b 0)) && (PyData.eqv (rowsD (a 1)) (rowsD (b 1)) && true)) = _
  rw [eqv_rows, eqv_rows, Bool.and_true, ← Bool.decide_and]
theorem okD_row (r : List Int) : Ok 2 (rowD r) := ok_list fun d hd => by
  obtain ⟨p, _, rfl⟩ := List.mem_map.mp hd
  exact ok_int _
theorem okD_rows (r : List (List Int)) : Ok 3 (rowsD r) := ok_list fun d hd => by
  obtain ⟨p, _, rfl⟩ := List.mem_map.mp hd
  exact okD_row p
theorem okD_al (a : Nat → List (List Int)) : Ok 4 (alD a) := ok_list fun d hd => by
  rcases List.mem_cons.mp hd with rfl | hd
  · exact okD_rows _
  · obtain rfl := List.mem_singleton.mp hd
    exact okD_rows _
/-! both of two tasks -/
theorem nodup_perm {α : Type} [DecidableEq α] : ∀ {l m : List α}, l.Nodup → (∀ x ∈ l, x ∈ m) → m.length ≤ l.length → l.Perm m
  | [], m, _, _, h => by
    have : m = [] := List.eq_nil_of_length_eq_zero (by simpa using h)
    rw [this]
  | x :: l, m, n, h, hl => by
    rw [List.nodup_cons] at n
    have hx := h x List.mem_cons_self
    refine (List.Perm.cons x (nodup_perm (m := m.erase x) n.2 (fun y hy => ?_) ?_)).trans (List.perm_cons_erase hx).symm
    · refine (List.mem_erase_of_ne (fun c => ?_)).mpr (h y (List.mem_cons_of_mem _ hy))
      subst c
      exact n.1 hy
    · rw [List.length_erase_of_mem hx]
      rw [List.length_cons] at hl
      omega
abbrev EB := IP × List (Int × Int)
def uniq (bo : BD) : Prop := (bo.map (·.1)).Pairwise (· ≠ ·)
theorem uniq_nodup {bo : BD} (h : uniq bo) : bo.Nodup := List.Pairwise.imp (fun h c => h (congrArg _ c)) (List.pairwise_map.mp h)
theorem uniq_key {bo : BD} (h : uniq bo) : ∀ {e f : EB}, e ∈ bo → f ∈ bo → e.1 = f.1 → e = f := by
  induction bo with
  | nil => intro e f he; cases he
  | cons b r ih =>
    intro e f he hf k
    unfold uniq at h
    rw [List.map_cons, List.pairwise_cons] at h
    rcases List.mem_cons.mp he with e1 | he'
    · rcases List.mem_cons.mp hf with e2 | hf'
      · rw [e1, e2]
      · exact (h.1 _ (List.mem_map.mpr ⟨f, hf', rfl⟩) (by rw [← e1]; exact k)).elim
    · rcases List.mem_cons.mp hf with e2 | hf'
      · exact (h.1 _ (List.mem_map.mpr ⟨e, he', rfl⟩) (by rw [← e2]; exact k.symm)).elim
      · exact ih h.2 he' hf' k
theorem sort_perm {a b : BD} (ua : uniq a) : a.mergeSort leN = b.mergeSort leN ↔ a.Perm b := by
  constructor
  · intro h
    exact ((List.mergeSort_perm a leN).symm.trans (h ▸ List.Perm.refl _)).trans (List.mergeSort_perm b leN)
  · intro h
    have hp := ((List.mergeSort_perm a leN).trans h).trans (List.mergeSort_perm b leN).symm
    refine List.Perm.eq_of_pairwise (le := fun x y => leN x y = true) (fun x y hx hy h1 h2 => ?_) (sb_sorted ⟨fun _ => [], a⟩) (sb_sorted ⟨fun _ => [], b⟩) hp
    have hx := (List.mergeSort_perm a leN).mem_iff.mp hx
    have hy := h.mem_iff.mpr ((List.mergeSort_perm b leN).mem_iff.mp hy)
    refine uniq_key ua hx hy ?_
    have h1 := of_decide_eq_true h1
    have h2 := of_decide_eq_true h2
    refine Prod.ext ?_ ?_ <;> omega
def sameB (a b : BD) : Bool := decide (a.mergeSort leN = b.mergeSort leN)
theorem sameB_iff {a b : BD} (ua : uniq a) (ub : uniq b) : sameB a b = (a.length == b.length && a.all fun e => decide (e ∈ b)) := by
  unfold sameB
  rw [Bool.eq_iff_iff, decide_eq_true_eq, Bool.and_eq_true, sort_perm ua, beq_iff_eq, List.all_eq_true]
  constructor
  · intro h
    exact ⟨h.length_eq, fun e he => decide_eq_true (h.mem_iff.mp he)⟩
  · rintro ⟨h1, h2⟩
    exact nodup_perm (uniq_nodup ua) (fun e he => of_decide_eq_true (h2 e he)) (by omega)
def sameTD (T U : TD) : Bool := decide (T.al 0 = U.al 0 ∧ T.al 1 = U.al 1) && sameB T.bo U.bo
end TA

set_option Elab.async false
set_option maxRecDepth 100000
set_option maxHeartbeats 4000000
namespace TA
open PySem L2 PyProof.Rows
set_option linter.unusedVariables false
theorem hu140_of {A : Around} {k : Nat} (hr : Room k A) : A.units + 140 < cLine := by have := hr.un; omega
/-- what isinstance asks of the own class, and == of its instances -/
structure EqC (K : PySem.W.Frag) (C : Addr) : Prop where
  ha : PySem.W.findIn K (.ref C) "__class__" = some (some (.builtin "object.__class__"))
  hn : PySem.W.specialIn K (.builtin "object.__class__") "__get__" = some (some (.builtin "getset_descriptor.__get__"))
  htk : PySem.W.takesIn K (.builtin "object.__class__") = some true
  hm : PySem.W.mroIn K C (.type "object") = some true
  ne : PySem.W.findIn K (.ref C) "__ne__" = some (some (.builtin "object.__ne__"))
  ob : PySem.W.subIn K (.ref C) (.type "object") = some true
  kN : PySem.W.kitOne K (.type "NoneType") (.ref C) = some false
  kL : PySem.W.kitOne K (.type "list") (.ref C) = some false
  kT : PySem.W.kitOne K (.type "tuple") (.ref C) = some false
  kD : PySem.W.kitOne K (.type "dict") (.ref C) = some false
structure EqD (P : Program) (w : World) (K : PySem.W.Frag) (mg : Str → Option Value) (base : Heap) (C : Addr) (k : Nat) (sp : Sp) (f : Addr) (fd : FuncData) : Prop where
  G : FnOk P w K mg base CX0 k f fd ["self", "other"] sp
  b : Binds K fd ["self", "other"] []
  at_ : PySem.W.findIn K (.ref C) "__eq__" = some (some (.ref f))
  fn : PySem.W.isFn K (.ref f) = true
/-- no task, but a list, a tuple, a dict or None -/
def NoT (H : Hp) (v : V) : Prop := v = .non ∨ ∃ a, v = .ref a ∧ ((∃ xs, H a = some (.lst xs)) ∨ (∃ xs, H a = some (.tup xs)) ∨ ∃ kvs, H a = some (.dT kvs))
def spEq (K : PySem.W.Frag) (C : Addr) : Sp := fun vs H Q _ => ∃ (p : Addr) (v : V) (T : TD), vs = [.ref p, v] ∧ TaskAt C H p T ∧ uniq T.bo ∧ ((∃ (q : Addr) (U : TD), v = .ref q ∧ TaskAt C H q U ∧ uniq U.bo ∧ Q (.bl (sameTD T U)) H) ∨ (NoT H v ∧ Q (.bl false) H))
theorem kit_self {K : PySem.W.Frag} {C : Addr} : PySem.W.kitOne K (.ref C) (.ref C) = some true := by
  unfold PySem.W.kitOne
  rw [if_pos (by simp)]
/-- what the dict of a task holds at a key -/
theorem val_no {H : Hp} {kvs : List (List Key × V)} {bo : BD} (a : A2 (EnAt H) kvs bo) {p : IP} (n : ∀ e ∈ bo, e.1 ≠ p) : valV kvs (kI p) = none := valV_noneP fun x hx c => by
  obtain ⟨f, hf, q⟩ := a.mem hx
  exact n f hf (kI_inj (q.1.symm.trans c))
theorem eqx_let {K : PySem.W.Frag} {H : Hp} {x y : V} {l m : List (Int × Int)} (h : LetAt H x l) (g : LetAt H y m) : EqX K H 1 x y (decide (l = m)) :=
  .inl ⟨letD l, letD m, h.dp, g.dp, (okD_pairs l).shaped (by decide), (okD_pairs m).shaped (by decide), (eqv_let l m).symm⟩
theorem rcx_bo {K : PySem.W.Frag} {H : Hp} {d d' : Addr} {bo bo' : BD} (h : BoAt H d bo) (g : BoAt H d' bo') (u : uniq bo) (u' : uniq bo') : RcX K H (EqX K H 1) (.ref d) (.ref d') (sameB bo bo') := by
  obtain ⟨ks, hd, a⟩ := h
  obtain ⟨ls, hd', a'⟩ := g
  refine .inr (.inr ⟨d, d', ks, ls, fun p => decide (∃ e ∈ bo', p.1 = kI e.1 ∧ ∃ f ∈ bo, p.1 = kI f.1 ∧ e = f), rfl, rfl, hd, hd', fun hl p hp => ?_, ?_⟩)
  · obtain ⟨e, he, ek, el⟩ := a.mem hp
    by_cases c : ∃ f ∈ bo', f.1 = e.1
    · obtain ⟨f, hf, ef⟩ := c
      obtain ⟨v, hv, hl⟩ := val_at a' u' f hf
      refine .inr ⟨v, by rw [ek, ← ef]; exact hv, ?_⟩
      have := eqx_let (K := K) el hl
      refine cast (congrArg (EqX K H 1 p.2 v) (decide_eq_decide.mpr ⟨fun h => ⟨f, hf, by rw [ek, ef], e, he, ek, Prod.ext ef h.symm⟩, ?_⟩)) this
      rintro ⟨f', hf', k', e', he', k2, rfl⟩
      have e1 : f'.1 = f.1 := by rw [ef]; exact kI_inj (k'.symm.trans ek)
      have e2 := uniq_key u' hf' hf e1
      have e3 := uniq_key u he' he (kI_inj (k2.symm.trans ek))
      rw [← e2, ← e3]
    · refine .inl ⟨by rw [ek]; exact val_no a' fun f hf k => c ⟨f, hf, k⟩, decide_eq_false ?_⟩
      rintro ⟨f, hf, k, _⟩
      exact c ⟨f, hf, (kI_inj (ek.symm.trans k)).symm⟩
  · rw [sameB_iff u u', a.len, a'.len]
    congr 1
    rw [Bool.eq_iff_iff, List.all_eq_true, List.all_eq_true]
    constructor
    · intro h p hp
      obtain ⟨e, he, ek, el⟩ := a.mem hp
      have hm := of_decide_eq_true (h e he)
      exact decide_eq_true ⟨e, hm, ek, e, he, ek, rfl⟩
    · intro h e he
      obtain ⟨p, hp, ek, el⟩ : ∃ p, p ∈ ks ∧ EnAt H p e := by
        obtain ⟨i, hi⟩ := List.getElem?_of_mem he
        obtain ⟨p, hp, r⟩ := a.at hi
        exact ⟨p, List.mem_of_getElem? hp, r⟩
      obtain ⟨f, hf, k, e', he', k2, rfl⟩ := of_decide_eq_true (h p hp)
      have e3 := uniq_key u he' he (kI_inj (k2.symm.trans ek))
      exact decide_eq_true (by rw [← e3]; exact hf)
section
variable {P : Program} {w : World} {K : PySem.W.Frag} {mg : Str → Option Value} {base : Heap}
abbrev nEq : List Str := ["self", "other"]
theorem sc_eq : FnScope nEq nEq (defScope s_eq) := ⟨rfl, rfl, rfl, by decide +kernel, rfl, by decide +kernel, by decide +kernel⟩
theorem ok_eq {f C : Addr} {fd : FuncData} (F : Fun K "__eq__" "Task.__eq__" s_eq f fd) (T : Txt K mg) (Z : TxtC K mg C) (EC : EqC K C) : FnOk P w K mg base CX0 1 f fd ["self", "other"] (spEq K C) := by
  refine F.ok sc_eq (fun vs H Q E h => ?_) (fun cdv A outer s H vs Q E hr h => ?_)
  · obtain ⟨p, v, D, rfl, _⟩ := h
    rfl
  obtain ⟨p, v, D, rfl, hT, uT, h⟩ := h
  have nd := sc_eq.nd
  have hu140 := hu140_of hr
  refine ⟨_, (pss_one (ps_ret (pe_and (pe_callB call_isi (by rfl) T.isi boot_isinstance (pa_cons (pv 1) (pa_cons (pe_glob (v := .ref C) rfl Z.mg rfl) pa_nil))) (pe_and (pe_cmpR (op_eqD hr.units) (pe_fld (pv 0) rfl) (pe_fld (pv 1) rfl) (nomark _)) (pe_one (pe_cmpR (op_eqX hu140) (pe_fld (pv 0) rfl) (pe_fld (pv 1) rfl) (nomark _))))))), ?_⟩
  rcases h with ⟨q, U, rfl, hU, uU, k⟩ | ⟨hv, k⟩
  case inr =>
    rcases hv with rfl | ⟨a, rfl, ⟨xs, e⟩ | ⟨xs, e⟩ | ⟨kvs, e⟩⟩
    · exact ⟨_, rfl, _, .ref C, _, _, false, rfl, .own C, .base .non, EC.kN, _, rfl, iteF k⟩
    · exact ⟨_, rfl, _, .ref C, _, _, false, rfl, .own C, .base (.lst e), EC.kL, _, rfl, iteF k⟩
    · exact ⟨_, rfl, _, .ref C, _, _, false, rfl, .own C, .base (.tup e), EC.kT, _, rfl, iteF k⟩
    · exact ⟨_, rfl, _, .ref C, _, _, false, rfl, .own C, .base (.dT e), EC.kD, _, rfl, iteF k⟩
  obtain ⟨dx, aa, d, hp, hA, hB⟩ := hT
  obtain ⟨dx', aa', d', hq, hA', hB'⟩ := hU
  refine ⟨_, rfl, _, .ref C, _, _, true, rfl, .own C, .base (.ins hq Z.cl EC.ha EC.hn EC.htk EC.hm), kit_self, _, rfl, iteT ?_⟩
  refine ⟨_, rfl, p, C, dx, _, _, rfl, hp, Z.cl, Z.nA, flds_alone _ _, _, rfl, q, C, dx', _, _, rfl, hq, Z.cl, Z.nA, flds_alone _ _, alD D.al, alD U.al, hA.dp, hA'.dp, (okD_al _).shaped (by decide), (okD_al _).shaped (by decide), _, rfl, ?_⟩
  have ek : sameTD D U = (PyData.eqv (alD D.al) (alD U.al) && sameB D.bo U.bo) := by unfold sameTD; rw [eqv_al]
  rw [ek] at k
  cases c : PyData.eqv (alD D.al) (alD U.al) with
  | false =>
    rw [c, Bool.false_and] at k
    exact iteF k
  | true =>
    rw [c, Bool.true_and] at k
    refine iteT ?_
    exact ⟨_, rfl, p, C, dx, _, _, rfl, hp, Z.cl, Z.nB, flds_both _ _, _, rfl, q, C, dx', _, _, rfl, hq, Z.cl, Z.nB, flds_both _ _, 1, _, by decide, rcx_bo hB hB' uT uU, k⟩
end
end TA

set_option Elab.async false
set_option maxRecDepth 100000
set_option maxHeartbeats 4000000
namespace TA
open PySem L2 PyProof.Rows
set_option linter.unusedVariables false
structure KDef (P : Program) (w : World) (K : PySem.W.Frag) (mg : Str → Option Value) (base : Heap) (C : Addr) (x : Str) (ps : List Str) (k : Nat) (sp : Sp) (f : Addr) (fd : FuncData) : Prop where
  G : FnOk P w K mg base CX0 k f fd ps sp
  b : Binds K fd ps []
  M : Mk K C f
  m : mg x = some (.ref C)
theorem TpAt.but {H H' : Hp} {d : Addr} {zs : List V} (e : H d = some (.lst zs)) (s : But d H H') {v : V} {p : Int × Int} (h : TpAt H v p) : TpAt H' v p := by
  obtain ⟨t, rfl, h⟩ := h
  exact ⟨t, rfl, s _ _ (ne_of h e (fun z => by cases z)) h⟩
structure TxtN (mg : Str → Option Value) : Prop where
  abs : mg "abs" = none
  seven : ∃ t, mg "MOST_NAMED" = some (.int 7 t)
/-- both tell the first, either, the last -/
def namedT (m : Nat) (l : List (Int × Int)) : TD := ⟨fun _ => [[0], [(m : Int)]], [((0, 0), [(0, 0)]), ((0, 1), l), ((1, 0), l), ((1, 1), [((m : Int), (m : Int))])]⟩
def nearP (x y : Nat) : Bool := decide (x ≤ y + 1 ∧ y ≤ x + 1)
def rowN (x j : Nat) : List (Int × Int) := ((List.range j).filter (nearP x)).map fun (y : Nat) => ((x : Int), (y : Int))
def preN (n i : Nat) : List (Int × Int) := (List.range i).flatMap fun x => rowN x (n + 1)
def agreeT : TD := namedT 1 [(0, 0), (1, 1)]
def nearT (n : Nat) : TD := namedT n (preN n (n + 1))
instance (p q : Int × Int) : Decidable (ltP p q) := by unfold ltP; exact inferInstance
instance (x : Int) : Decidable (okOut x) := by unfold okOut; exact inferInstance
def okLetB (l : List (Int × Int)) : Bool := decide (1 ≤ l.length) && decide (l.length ≤ 200) && decide (l.Pairwise ltP) && decide (∀ p ∈ l, okOut p.1 ∧ okOut p.2)
theorem okLetB_of {l : List (Int × Int)} (h : okLetB l = true) : okLet l := by
  unfold okLetB at h
  rw [Bool.and_eq_true, Bool.and_eq_true, Bool.and_eq_true] at h
  exact ⟨of_decide_eq_true h.1.1.1, of_decide_eq_true h.1.1.2, of_decide_eq_true h.1.2, of_decide_eq_true h.2⟩
theorem named_wf {m : Nat} {l : List (Int × Int)} (h0 : 0 < m) (h1 : m ≤ 63) (hl : okLet l) : WF (namedT m l) where
  n0 := fun h _ => ⟨by show 1 ≤ 2; decide, by show 2 ≤ 20; decide⟩
  row := fun h _ r hr => by
    rcases List.mem_cons.mp hr with rfl | hr
    · exact ⟨by decide, by decide, List.pairwise_singleton _ _, fun x hx => by obtain rfl := List.mem_singleton.mp hx; decide⟩
    · obtain rfl := List.mem_singleton.mp hr
      exact ⟨(by show 1 ≤ 1; decide), (by show 1 ≤ 60; decide), List.pairwise_singleton _ _, fun x hx => by obtain rfl := List.mem_singleton.mp hx; unfold okOut; omega⟩
  srt := by
    show List.Pairwise (· ≠ ·) [((0 : Nat), (0 : Nat)), (0, 1), (1, 0), (1, 1)]
    simp
  rng := fun e he => by
    show e.1.1 < 2 ∧ e.1.2 < 2
    rcases List.mem_cons.mp he with rfl | he
    · decide
    rcases List.mem_cons.mp he with rfl | he
    · exact ⟨(by show 0 < 2; decide), (by show 1 < 2; decide)⟩
    rcases List.mem_cons.mp he with rfl | he
    · exact ⟨(by show 1 < 2; decide), (by show 0 < 2; decide)⟩
    obtain rfl := List.mem_singleton.mp he
    exact ⟨(by show 1 < 2; decide), (by show 1 < 2; decide)⟩
  lets := fun e he => by
    rcases List.mem_cons.mp he with rfl | he
    · exact okLetB_of (by decide +kernel)
    rcases List.mem_cons.mp he with rfl | he
    · exact hl
    rcases List.mem_cons.mp he with rfl | he
    · exact hl
    obtain rfl := List.mem_singleton.mp he
    refine ⟨(by show 1 ≤ 1; decide), (by show 1 ≤ 200; decide), List.pairwise_singleton _ _, fun p hp => ?_⟩
    obtain rfl := List.mem_singleton.mp hp
    unfold okOut
    constructor <;> (dsimp only; omega)
  many := (by show 4 ≤ 60; decide)
  com0 := fun a ha => by
    have ha : a < 2 := ha
    obtain rfl | rfl : a = 0 ∨ a = 1 := by omega
    · exact ⟨_, List.mem_cons_self, rfl⟩
    · exact ⟨_, List.mem_cons_of_mem _ (List.mem_cons_of_mem _ List.mem_cons_self), rfl⟩
  com1 := fun a ha => by
    have ha : a < 2 := ha
    obtain rfl | rfl : a = 0 ∨ a = 1 := by omega
    · exact ⟨_, List.mem_cons_self, rfl⟩
    · exact ⟨_, List.mem_cons_of_mem _ List.mem_cons_self, rfl⟩
theorem agree_wf : WF agreeT := named_wf (by decide) (by decide) (okLetB_of (by decide +kernel))
theorem near_let (n : Nat) (h : n < 8) (h0 : 0 < n) : okLet (preN n (n + 1)) := by
  obtain rfl | rfl | rfl | rfl | rfl | rfl | rfl : n = 1 ∨ n = 2 ∨ n = 3 ∨ n = 4 ∨ n = 5 ∨ n = 6 ∨ n = 7 := by omega
  · exact okLetB_of (by decide +kernel)
  · exact okLetB_of (by decide +kernel)
  · exact okLetB_of (by decide +kernel)
  · exact okLetB_of (by decide +kernel)
  · exact okLetB_of (by decide +kernel)
  · exact okLetB_of (by decide +kernel)
  · exact okLetB_of (by decide +kernel)
theorem near_wf {n : Nat} (h0 : 0 < n) (h1 : n < 8) : WF (nearT n) := named_wf h0 (by omega) (near_let n h1 h0)
/-- a new task: its lists are new, all of them -/
def NewT (C : Addr) (H H' : Hp) (p : Addr) (T : TD) : Prop := Same H H' ∧ ∃ Hx, Same H Hx ∧ NewAt C Hx H' p T
theorem NewT.task {C : Addr} {H H' : Hp} {p : Addr} {T : TD} (h : NewT C H H' p T) : TaskAt C H' p T := by
  obtain ⟨_, _, _, h⟩ := h
  exact h.task
def spAgree (C : Addr) : Sp := fun vs H Q _ => vs = [] ∧ ∀ (p : Addr) (H' : Hp), NewT C H H' p agreeT → Q (.ref p) H'
def spNear (C : Addr) : Sp := fun vs H Q _ => ∃ n : Nat, vs = [.int (n : Int)] ∧ 0 < n ∧ n < 8 ∧ ∀ (p : Addr) (H' : Hp), NewT C H H' p (nearT n) → Q (.ref p) H'
/-- the dict that was displayed -/
theorem named_bo {H : Hp} {m : Nat} {l : List (Int × Int)} {d c l0 l1 : Addr} (e0 : LetAt H (.ref l0) [(0, 0)]) (e1 : LetAt H (.ref c) l) (e2 : LetAt H (.ref l1) [((m : Int), (m : Int))]) (hd : H d = some (.dT [(kI (0, 0), .ref l0), (kI (0, 1), .ref c), (kI (1, 0), .ref c), (kI (1, 1), .ref l1)])) : BoAt H d (namedT m l).bo :=
  ⟨_, hd, .cons ⟨rfl, e0⟩ (.cons ⟨rfl, e1⟩ (.cons ⟨rfl, e1⟩ (.cons ⟨rfl, e2⟩ .nil)))⟩
theorem merge4 (a b c d : V) : mergeT [] [(kI (0, 0), a), (kI (0, 1), b), (kI (1, 0), c), (kI (1, 1), d)] = [(kI (0, 0), a), (kI (0, 1), b), (kI (1, 0), c), (kI (1, 1), d)] := by
  have k (x y : IP) (h : x ≠ y) : ¬ kI x = kI y := fun e => h (kI_inj e)
  unfold mergeT
  show putK (putK (putK (putK ([] : List (List Key × V)) (kI (0, 0)) a) (kI (0, 1)) b) (kI (1, 0)) c) (kI (1, 1)) d = _
  rw [putK_new (kvs := []) a rfl, List.nil_append, putK_new b ?_, putK_new c ?_, putK_new d ?_]
  · rfl
  all_goals exact valV_noneP (by simp [kI])
section
variable {P : Program} {w : World} {K : PySem.W.Frag} {mg : Str → Option Value} {base : Heap}
abbrev nNear : List Str := ["n", "close", "both", "x", "y"]
theorem sc_near : FnScope nNear ["n"] (defScope s_near) := ⟨rfl, rfl, rfl, by decide +kernel, rfl, by decide +kernel, by decide +kernel⟩
theorem rowN_snoc (x j : Nat) : rowN x (j + 1) = rowN x j ++ (if nearP x j = true then [((x : Int), (j : Int))] else []) := by
  unfold rowN
  rw [List.range_succ, List.filter_append, List.map_append]
  by_cases c : nearP x j = true
  · rw [if_pos c, List.filter_cons_of_pos c]
    rfl
  · rw [if_neg c, List.filter_cons_of_neg c]
    rfl
theorem ok_near {f g1 g3 C : Addr} {fd d1 d3 : FuncData} (F : Fun K "near" "near" s_near f fd) (T : Txt K mg) (N : TxtN mg) (WW : Def P w K mg base "is_whole_within" ["thing", "least", "most"] 2 (spWithinG K) g1 d1) (Tk : KDef P w K mg base C "Task" ["self", "alone", "both"] 7 (spInit K C) g3 d3) : FnOk P w K mg base CX0 9 f fd ["n"] (spNear C) := by
  refine F.ok sc_near (fun vs H Q E h => ?_) (fun cdv A outer s H vs Q E hr h => ?_)
  · obtain ⟨n, rfl, _⟩ := h
    rfl
  obtain ⟨n, rfl, hn0, hn5, q⟩ := h
  have nd := sc_near.nd
  have hu := hu_of hr
  obtain ⟨t7, m7⟩ := N.seven
  refine ⟨_, (pss_cons (ps_if (pt_not (pt_val (pe_call WW.G (hr.mono (by decide)) rfl WW.m WW.k WW.b .nil pass0 (pa_cons (pv 0) (pa_cons pe_int (pa_cons (pe_glob (v := .int 7) rfl m7 ⟨_, rfl⟩) pa_nil))))))
      pss_never
      pss_nil)
    (pss_cons (ps_setLc2 (i := 1) (own := [("x", 3), ("y", 4)]) (vs1 := [4]) (wi1 := iRng1 (tCons (tOp (rI0 fun i j => .int (i + j)) (tVar 0) (tC (.int 1))) tNil)) (tt1 := tTest (tOp (rI0 fun i j => .bl (decide (i ≤ j))) (tCB (fun xs H Q => ∃ i, xs = [.int i] ∧ Q (.int (if i < 0 then -i else i)) H) (tCons (tOp (rI0 fun i j => .int (i - j)) (tVar 3) (tVar 4)) tNil)) (tC (.int 1)))) rfl nd rfl rfl (sw_true rfl rfl rfl (by decide +kernel)) (pi_range1 (by rfl) T.range (pa_cons (pe_op op_add (pv 0) pe_int) pa_nil)) (blkOk_by (N := nNear) (sc := defScope s_near) (by decide +kernel)) (by decide)
      (fun _ _ _ _ _ => pg_name (i := 3) nd rfl (Or.inl rfl)) (fun _ _ _ _ _ => pts_nil) (fun _ _ _ _ _ => (by refine pi_range1 (by rfl) T.range ?_; exact pa_cons (pe_op op_add (pv 0) pe_int) pa_nil)) (fun _ _ _ _ _ => pg_name (i := 4) nd rfl (Or.inl rfl))
      (fun _ _ _ _ _ => (by refine pts_one ?_; refine pt_cmpR op_le ?_ pe_int (nomark _); exact pe_callB call_abs (by rfl) N.abs (by decide +kernel) (pa_cons (pe_op op_sub (pv 3) (pv 4)) pa_nil)))
      (fun _ _ _ _ _ => pe_tup (pa_cons (pv 3) (pa_cons (pv 4) pa_nil))))
    (pss_cons (ps_set (i := 2) nd rfl (Or.inl rfl) (pe_dispT hu (pps_cons (pe_tup (pa_cons pe_int (pa_cons pe_int pa_nil))) (pe_lst (pa_cons (pe_tup (pa_cons pe_int (pa_cons pe_int pa_nil))) pa_nil)) (pps_cons (pe_tup (pa_cons pe_int (pa_cons pe_int pa_nil))) (pv 1) (pps_cons (pe_tup (pa_cons pe_int (pa_cons pe_int pa_nil))) (pv 1) (pps_cons (pe_tup (pa_cons pe_int (pa_cons pe_int pa_nil))) (pe_lst (pa_cons (pe_tup (pa_cons (pv 0) (pa_cons (pv 0) pa_nil))) pa_nil)) pps_nil)))) (by rfl) (by rfl) (fun h => nomatch h) (by decide +kernel)))
    (pss_one (ps_ret (pe_make Tk.M Tk.G (hr.mono (by decide)) (by rfl) Tk.m Tk.b .nil pass0 (pa_cons (pe_lst (pa_cons (pe_lst (pa_cons (pe_lst (pa_cons pe_int pa_nil)) (pa_cons (pe_lst (pa_cons (pv 0) pa_nil)) pa_nil))) (pa_cons (pe_lst (pa_cons (pe_lst (pa_cons pe_int pa_nil)) (pa_cons (pe_lst (pa_cons (pv 0) pa_nil)) pa_nil))) pa_nil))) (pa_cons (pv 2) pa_nil)))))))), ?_⟩
  refine ⟨_, rfl, _, _, _, _, rfl, .int _, ?_⟩
  rw [show within (.int (n : Int)) 1 7 = true from decide_eq_true (by omega)]
  refine ⟨true, rfl, iteF ?_⟩
  refine ⟨_, rfl, _, _, rfl, rfl, ((n : Int) + 1), rfl, by omega, by omega, fun c hc => ?_⟩
  have en : ((n : Int) + 1).toNat = n + 1 := by omega
  rw [en]
  refine range_turns (n := n + 1) (fun i H' => Same H H' ∧ ∃ ys, H' c = some (.lst ys) ∧ A2 (TpAt H') ys (preN n i) ∧ ys.length ≤ 8 * i) ⟨same_new hc _, [], upd_same, .nil, Nat.zero_le _⟩ ?_ ?_
  · rintro i H' hi ⟨s1, ys, hy, ay, ly⟩
    have ej : (0 : Int) + (i : Int) = (i : Int) := by omega
    rw [ej]
    refine ⟨rfl, _, rfl, _, _, rfl, rfl, ((n : Int) + 1), rfl, by omega, by omega, ?_⟩
    rw [en]
    refine range_turns (n := n + 1) (fun j H' => Same H H' ∧ ∃ ys, H' c = some (.lst ys) ∧ A2 (TpAt H') ys (preN n i ++ rowN i j) ∧ ys.length ≤ 8 * i + j) ⟨s1, ys, hy, by rw [show rowN i 0 = [] from by unfold rowN; rfl, List.append_nil]; exact ay, ly⟩ ?_ ?_
    · rintro j H2 hj ⟨s2, zs, hz, az, lz⟩
      have ej : (0 : Int) + (j : Int) = (j : Int) := by omega
      rw [ej]
      refine ⟨rfl, _, rfl, _, rfl, _, _, rfl, rfl, _, rfl, _, _, rfl, rfl, _, rfl, ?_⟩
      have hc2 : decide ((if (i : Int) - (j : Int) < 0 then -((i : Int) - (j : Int)) else (i : Int) - (j : Int)) ≤ 1) = nearP i j := by
        unfold nearP
        refine decide_eq_decide.mpr ?_
        split <;> omega
      by_cases c3 : nearP i j = true
      · refine iteT' (hc2.trans c3) ?_
        refine ⟨_, rfl, _, rfl, (by show 2 ≤ sizeLine; decide), fun t ht => ?_⟩
        have s3 := same_new ht (.tup [V.int (i : Int), V.int (j : Int)])
        refine ⟨zs, s3 _ _ hz, Nat.lt_of_le_of_lt (show zs.length ≤ 100 by omega) (by decide), same_upd (s2.trans s3) hc, _, upd_same, ?_, by rw [List.length_append]; show zs.length + 1 ≤ _; omega⟩
        rw [rowN_snoc, if_pos c3, ← List.append_assoc]
        exact A2.snoc (az.imp fun _ _ r => (r.mono (.same s3)).but (s3 _ _ hz) But.at) (TpAt.but (s3 _ _ hz) But.at ⟨t, rfl, upd_same⟩)
      · refine iteF' (hc2.trans (Bool.eq_false_iff.mpr c3)) ?_
        refine ⟨s2, zs, hz, ?_, by omega⟩
        rw [rowN_snoc, if_neg c3, List.append_nil]
        exact az
    · rintro H2 ⟨s2, zs, hz, az, lz⟩
      refine ⟨s2, zs, hz, ?_, by omega⟩
      have : preN n (i + 1) = preN n i ++ rowN i (n + 1) := by
        unfold preN
        rw [List.range_succ, List.flatMap_append]
        simp
      rw [this]
      exact az
  rintro H0 ⟨sH, ys, hy, ay, ly⟩
  have hL : LetAt H0 (.ref c) (preN n (n + 1)) := ⟨c, ys, rfl, hy, ay⟩
  intro d hd
  have a0 := same_new hd (.dT [])
  have hdd : (upd H0 d (.dT [])) d = some (.dT []) := upd_same
  generalize hG0 : upd H0 d (.dT []) = G0 at a0 hdd ⊢
  refine ⟨(by show 2 ≤ sizeLine; decide), fun k0 hk0 => ⟨(by show 2 ≤ sizeLine; decide), fun u0 hu0 => ⟨(by show 1 ≤ sizeLine; decide), fun l0 hl0 => ?_⟩⟩⟩
  have a1 := same_new hk0 (.tup [V.int 0, V.int 0])
  have x0 : (upd G0 k0 (.tup [V.int 0, V.int 0])) k0 = some (.tup [V.int 0, V.int 0]) := upd_same
  generalize upd G0 k0 (.tup [V.int 0, V.int 0]) = G1 at a1 x0 hu0 hl0 ⊢
  have a2 := same_new hu0 (.tup [V.int 0, V.int 0])
  have a3 := same_new hl0 (.lst [V.ref u0])
  have y0 : LetAt (upd (upd G1 u0 (.tup [V.int 0, V.int 0])) l0 (.lst [V.ref u0])) (.ref l0) [(0, 0)] := ⟨l0, _, rfl, upd_same, .cons ⟨u0, rfl, a3 _ _ upd_same⟩ .nil⟩
  generalize upd (upd G1 u0 (.tup [V.int 0, V.int 0])) l0 (.lst [V.ref u0]) = G3 at a3 y0 ⊢
  refine ⟨(by show 2 ≤ sizeLine; decide), fun k1 hk1 => ⟨_, rfl, ?_⟩⟩
  have a4 := same_new hk1 (.tup [V.int 0, V.int 1])
  have x1 : (upd G3 k1 (.tup [V.int 0, V.int 1])) k1 = some (.tup [V.int 0, V.int 1]) := upd_same
  generalize upd G3 k1 (.tup [V.int 0, V.int 1]) = G4 at a4 x1 ⊢
  refine ⟨(by show 2 ≤ sizeLine; decide), fun k2 hk2 => ⟨_, rfl, ?_⟩⟩
  have a5 := same_new hk2 (.tup [V.int 1, V.int 0])
  have x2 : (upd G4 k2 (.tup [V.int 1, V.int 0])) k2 = some (.tup [V.int 1, V.int 0]) := upd_same
  generalize upd G4 k2 (.tup [V.int 1, V.int 0]) = G5 at a5 x2 ⊢
  refine ⟨(by show 2 ≤ sizeLine; decide), fun k3 hk3 => ⟨_, rfl, _, rfl, (by show 2 ≤ sizeLine; decide), fun u1 hu1 => ⟨(by show 1 ≤ sizeLine; decide), fun l1 hl1 => ?_⟩⟩⟩
  have a6 := same_new hk3 (.tup [V.int 1, V.int 1])
  have x3 : (upd G5 k3 (.tup [V.int 1, V.int 1])) k3 = some (.tup [V.int 1, V.int 1]) := upd_same
  generalize upd G5 k3 (.tup [V.int 1, V.int 1]) = G6 at a6 x3 hu1 hl1 ⊢
  have a7 := same_new hu1 (.tup [V.int (n : Int), V.int (n : Int)])
  have a8 := same_new hl1 (.lst [V.ref u1])
  have y1 : LetAt (upd (upd G6 u1 (.tup [V.int (n : Int), V.int (n : Int)])) l1 (.lst [V.ref u1])) (.ref l1) [((n : Int), (n : Int))] := ⟨l1, _, rfl, upd_same, .cons ⟨u1, rfl, a8 _ _ upd_same⟩ .nil⟩
  generalize upd (upd G6 u1 (.tup [V.int (n : Int), V.int (n : Int)])) l1 (.lst [V.ref u1]) = G8 at a8 y1 ⊢
  have b78 := a7.trans a8
  have b6 := a6.trans b78
  have b5 := a5.trans b6
  have b4 := a4.trans b5
  have b3 := (a2.trans a3).trans b4
  have b1 := a1.trans b3
  have hd8 := b1 _ _ hdd
  refine ⟨hd8, [(kI (0, 0), .ref l0), (kI (0, 1), .ref c), (kI (1, 0), .ref c), (kI (1, 1), .ref l1)], .cons ⟨⟨k0, rfl, b3 _ _ x0⟩, rfl⟩ (.cons ⟨⟨k1, rfl, b5 _ _ x1⟩, rfl⟩ (.cons ⟨⟨k2, rfl, b6 _ _ x2⟩, rfl⟩ (.cons ⟨⟨k3, rfl, b78 _ _ x3⟩, rfl⟩ .nil))), (by show 4 ≤ 15; decide), ?_⟩
  rw [merge4]
  have c0 : Same H0 (upd G8 d (.dT [(kI (0, 0), .ref l0), (kI (0, 1), .ref c), (kI (1, 0), .ref c), (kI (1, 1), .ref l1)])) := same_upd (a0.trans b1) hd
  have kp : Kp G8 (upd G8 d (.dT [(kI (0, 0), .ref l0), (kI (0, 1), .ref c), (kI (1, 0), .ref c), (kI (1, 1), .ref l1)])) := Kp.put hd8 nf_dT
  have hB : BoAt (upd G8 d (.dT [(kI (0, 0), .ref l0), (kI (0, 1), .ref c), (kI (1, 0), .ref c), (kI (1, 1), .ref l1)])) d (namedT n (preN n (n + 1))).bo := named_bo (y0.mono ((Kp.same b4).trans kp)) (hL.mono (.same c0)) (y1.mono kp) upd_same
  generalize upd G8 d (.dT [(kI (0, 0), .ref l0), (kI (0, 1), .ref c), (kI (1, 0), .ref c), (kI (1, 1), .ref l1)]) = G9 at c0 hB ⊢
  clear kp hd8
  refine ⟨(by show 1 ≤ sizeLine; decide), fun r0 hr0 => ⟨_, rfl, (by show 1 ≤ sizeLine; decide), fun r1 hr1 => ⟨(by show 2 ≤ sizeLine; decide), fun w0 hw0 => ?_⟩⟩⟩
  have e1 := same_new hr0 (.lst [V.int 0])
  have e2 := same_new hr1 (.lst [V.int (n : Int)])
  have e3 := same_new hw0 (.lst [V.ref r0, V.ref r1])
  have z0 : RowsAt _ (.ref w0) [[0], [(n : Int)]] := ⟨w0, _, rfl, upd_same, .cons ⟨r0, rfl, e3 _ _ (e2 _ _ upd_same)⟩ (.cons ⟨r1, rfl, e3 _ _ upd_same⟩ .nil)⟩
  have e123 := (e1.trans e2).trans e3
  generalize upd (upd (upd G9 r0 (.lst [V.int 0])) r1 (.lst [V.int (n : Int)])) w0 (.lst [V.ref r0, V.ref r1]) = M1 at e123 z0 ⊢
  clear e1 e2 e3 hr0 hr1 hw0
  refine ⟨(by show 1 ≤ sizeLine; decide), fun r2 hr2 => ⟨_, rfl, (by show 1 ≤ sizeLine; decide), fun r3 hr3 => ⟨(by show 2 ≤ sizeLine; decide), fun w1 hw1 => ⟨(by show 2 ≤ sizeLine; decide), fun al hal => ?_⟩⟩⟩⟩
  have e1 := same_new hr2 (.lst [V.int 0])
  have e2 := same_new hr3 (.lst [V.int (n : Int)])
  have e3 := same_new hw1 (.lst [V.ref r2, V.ref r3])
  have e4 := same_new hal (.lst [V.ref w0, V.ref w1])
  have z1 : RowsAt _ (.ref w1) [[0], [(n : Int)]] := ⟨w1, _, rfl, upd_same, .cons ⟨r2, rfl, e3 _ _ (e2 _ _ upd_same)⟩ (.cons ⟨r3, rfl, e3 _ _ upd_same⟩ .nil)⟩
  have e234 := ((e1.trans e2).trans e3).trans e4
  have hA : AlAt _ (.ref al) (namedT n (preN n (n + 1))).al := ⟨al, _, _, rfl, upd_same, z0.mono (.same e234), z1.mono (.same e4)⟩
  have sM := e123.trans e234
  generalize upd (upd (upd (upd M1 r2 (.lst [V.int 0])) r3 (.lst [V.int (n : Int)])) w1 (.lst [V.ref r2, V.ref r3])) al (.lst [V.ref w0, V.ref w1]) = M2 at sM hA ⊢
  refine ⟨_, rfl, ?_⟩
  intro x dx nx ndx nex
  have s4 : Same M2 (upd (upd M2 dx (.own x)) x (.ins C dx [])) := fun b o e => by
    rw [upd_ne (ne_of_none e nx), upd_ne (ne_of_none e ndx)]
    exact e
  refine ⟨x, dx, al, d, _, rfl, upd_same, hA.mono (.same s4), (hB.mono sM).mono s4, (near_wf hn0 hn5), fun H5 b5 hnew => ⟨rfl, ?_⟩⟩
  have s5 : Same M2 H5 := fun b o e => b5 _ _ (ne_of_none e nx) (s4 _ _ e)
  exact q x H5 ⟨((sH.trans c0).trans sM).trans s5, _, ((sH.trans c0).trans sM).trans s4, hnew⟩
end
end TA

set_option Elab.async false
set_option maxRecDepth 100000
set_option maxHeartbeats 4000000
namespace TA
open PySem PySem.Spec L2 PyProof.Rows
set_option linter.unusedVariables false
/-! try: .. except A as n: .. and further clauses: where the body raises, the first clause takes it -/
def wFirst (K : PySem.W.Frag) (c : Value) (i : Nat) (ts : Addr → Value → Option Addr → TS) (D : Ends) : WX := fun cls d σ H => PySem.W.exmOne K cls c = some true ∧ ∀ a, H a = none → ts a cls d { nx := fun σ' H' => D.nx (σ'.set i none) H', rt := D.rt, bk := fun σ' H' => D.bk (σ'.set i none) H', ct := fun σ' H' => D.ct (σ'.set i none) H' } (σ.set i (some (.ref a))) H
theorem ps_try_first {X : Cx} {x n : Str} {c : Value} {i : Nat} {body suite : List Stmt} {b₀ : Stmt} {np pos pos' : Pos} {more : List ExceptHandler} {tb : WX → TS} {ts : Addr → Value → Option Addr → TS} (stk : X.stack = X.env :: X.outer) (frm : X.env.frame = some X.env.locals) (nodup : X.N.Nodup) (slot : X.N[i]? = some n) (isLoc : X.env.kindOf n = some .local) (named : Names X x c)
    (inner : ∀ (W : WX) (pn : List (Addr × Obj)) (xe : Value → Shared → Prop), Takes (X.tr pn xe) W → PassesOwn (model X.prog X.w) X.A X.env xe → PSs (X.tr pn xe) body (tb W)) (clause : ∀ (a : Addr) (oe : Obj) (cls : Value) (d : Option Addr) (pn : List (Addr × Obj)), Zc cls d oe → (∃ vs, oe.data = .fields vs) → PSs (X.suite a ((a, oe) :: pn)) (b₀ :: suite) (ts a cls d)) :
    PS X (.Try body (.ExceptHandler (some (.Name x np)) (some n) (b₀ :: suite) pos' :: more) [] [] pos) (fun D σ H => tb (wFirst X.K c i ts D) D σ H) := by
  refine ⟨fun pins s σ H D inv given => ?_⟩
  have fine := inv.ok
  have local' : Loc X.env.scope n := .inl isLoc
  refine wpAny_Try_except ?_
  have runs := (inner (wFirst X.K c i ts D) (X.pn ++ pins) (fun e s₁ => wpAny (model X.prog X.w) X.A (noteFrame e X.env) (fun _ s₂ => wpAny (model X.prog X.w) X.A (setFlight e none) (fun _ s₃ => wpAny (model X.prog X.w) X.A (handleBy e X.env (.ExceptHandler (some (.Name x np)) (some n) (b₀ :: suite) pos' :: more)) (SP X pins D) X.xe s₃) X.xe s₂) X.xe s₁) (fun u s' met => ?caught) PassesOwn.looking).run [] s σ H D (inv.toTry _) given
  case caught =>
    obtain ⟨a, B, sI, pins', σ', H', cls, d, rfl, J', nb, up, sky, na, os, ag, hb1, hyes⟩ := met
    have J : Inv X pins σ' H' sI := J'.ofTry fine
    have above : Sky B (X.env :: X.outer) a (Zc cls d) X.env.locals s'.heap := by rw [← stk]; exact sky
    show wpAny (model X.prog X.w) X.A (noteFrame (.ref a) X.env) _ _ _
    refine Sky.land Zc.steady (by rw [fine.frames, stk]) frm above fun h3 fl3 up3 => ?_
    have J3 : Inv X pins σ' H' { s' with heap := h3 } := J.landed nb fl3.1 (up.trans up3) os ag
    obtain ⟨oe3, vs3, he3, hz3, hd3⟩ := fl3.there
    have outside : a ∉ frs (X.env :: X.outer) := fun hm => by
      obtain ⟨_, o', e', hnf⟩ := fl3.2.2.1.mem hm
      rw [he3] at e'; cases e'
      exact hnf _ hd3
    have notL : a ≠ X.env.locals := fun z => outside (List.mem_filterMap.mpr ⟨X.env, List.mem_cons_self, by rw [frm, z]⟩)
    have notF : a ∉ X.fs := fun hm => by
      obtain ⟨v, hv, q⟩ := List.mem_filterMap.mp hm
      exact outside (List.mem_filterMap.mpr ⟨v, List.mem_cons_of_mem _ hv, q⟩)
    have S3 := J3.suite he3 hd3 na notL notF
    refine wpAny_handleBy_cons (codeAny_handlers_test ?_) (fun q => nomatch q)
    have looks : PySem.W.Looks (model X.prog X.w) h3 (typeOf (.ref a)) cls := fun _ _ _ _ k q => wpAny_typeOf_ref (k _ _ he3) (by rw [hz3.1]; exact q)
    have asked := PySem.W.exm_one (M := model X.prog X.w) (J3.kIn) looks hb1
    have named' : ∀ {Q E : Value → Shared → Prop}, Q c { s' with heap := h3 } → wpAny (model X.prog X.w) (X.A.mark (some (.ref a))) (eval (.Name x np) X.env) Q E { s' with heap := h3 } := fun q => by
      obtain ⟨g1, g2, m1 | ⟨m1, m2, m3⟩⟩ := named
      · exact ld_glob (X := X.suite a ((a, oe3) :: (X.pn ++ pins))) S3 g1 m1 q g2
      · exact ld_blt (X := X.suite a ((a, oe3) :: (X.pn ++ pins))) S3 g1 m1 m2 q m3 g2
    refine named' (asked.here (codeAny_handlers_suite_as ?_))
    refine HandSPX.lands_againZ fl3 fun h4 fl4 up4 => ?_
    have J4 : Inv X pins σ' H' { s' with heap := h4 } := J.landed nb fl4.1 ((up.trans up3).trans up4) os ag
    obtain ⟨oe4, vs4, he4, hz4, hd4⟩ := fl4.there
    have S4 := J4.suite he4 hd4 na notL notF
    refine store_ok (X := X.suite a ((a, oe4) :: (X.pn ++ pins))) (v := .ref a) S4 nodup slot local' rfl (fun s5 S5 => ?_) (.inr isLoc)
    refine wpAny_mono ((clause a oe4 cls d (X.pn ++ pins) hz4 ⟨_, hd4⟩).run [] s5 _ H' _ S5 (hyes a na)) (fun f s6 past => ?_) (fun _ _ z => z.elim)
    have over : ∀ {σ6 : L2.St} {H6 : Hp} {Q : Shared → Prop}, Inv (X.suite a ((a, oe4) :: (X.pn ++ pins))) [] σ6 H6 s6 → (∀ s7, Inv X pins (σ6.set i none) H6 s7 → Q s7) → wpAny (model X.prog X.w) X.A (do bindName X.env n .none; unbindBehindTheSuite X.env n pos') (fun _ s7 => Q s7) X.xe s6 := fun S6 hq => gone_ok (S6.unsuite fine) nodup slot isLoc hq
    cases f with
    | next => obtain ⟨_, _, S6, q6⟩ := past; exact over S6 fun s7 J7 => ⟨_, _, J7, q6⟩
    | brk => obtain ⟨_, _, S6, q6⟩ := past; exact over S6 fun s7 J7 => ⟨_, _, J7, q6⟩
    | cont => obtain ⟨_, _, S6, q6⟩ := past; exact over S6 fun s7 J7 => ⟨_, _, J7, q6⟩
    | ret u => obtain ⟨_, _, _, S6, r6, q6⟩ := past; exact over S6 fun s7 J7 => ⟨_, _, _, J7, r6, q6⟩
  refine wpAny_mono runs (fun f s1 past => ?_) (fun _ _ he => he)
  cases f with
  | next => obtain ⟨_, _, J', q⟩ := past; exact wpAny_execs_nil ⟨_, _, J'.ofTry fine, q⟩
  | brk => obtain ⟨_, _, J', q⟩ := past; exact ⟨_, _, J'.ofTry fine, q⟩
  | cont => obtain ⟨_, _, J', q⟩ := past; exact ⟨_, _, J'.ofTry fine, q⟩
  | ret u => obtain ⟨_, _, _, J', r, q⟩ := past; exact ⟨_, _, _, J'.ofTry fine, r, q⟩
/-- isinstance of the error that an except suite holds: which class it has is said by the reading -/
theorem call_isE2 {X : Cx} {a : Addr} {oe : Obj} {cls : Value} {d : Option Addr} {pn : List (Addr × Obj)} (hz : Zc cls d oe) (hf : ∃ vs, oe.data = .fields vs) : CallR (X.suite a ((a, oe) :: pn)) (.builtin "isinstance") (fun xs H Q => ∃ D : Addr, cls = .ref D ∧ d = none ∧ ExcC X.K D ∧ rIsE X.K D a xs H Q) := by
  intro pins s σ H xs us Q I r h
  obtain ⟨D, rfl, rfl, T, h⟩ := h
  exact call_isE T hz hf pins s σ H xs us Q I r h
theorem pss_read {X : Cx} {b : List Stmt} {T : TS} (h : ∀ (pins : List (Addr × Obj)) (s : Shared) (σ : L2.St) (H : Hp) (D : Ends), Inv X pins σ H s → T D σ H → ∃ t, PSs X b t ∧ t D σ H) : PSs X b T := ⟨fun pins s σ H D I q => by
  obtain ⟨t, p, r⟩ := h pins s σ H D I q
  exact p.run pins s σ H D I r⟩
/-- o.m(..) in a try -/
def tMethE (C : Addr) (m : Str) (sp : Sp) (E : L2.St → XK) (ta : TE) (t : L2.TA) : TE := fun σ H Q => ta σ H fun x H1 => ∃ a dx fs, x = .ref a ∧ H1 a = some (.ins C dx fs) ∧ fs.lookup m = none ∧ t σ H1 fun vs H2 => sp (x :: vs) H2 Q (E σ)
theorem pe_methE {X : Cx} {CX : CXT} {k : Nat} {f C : Addr} {fd : FuncData} {ps : List Str} {sp : Sp} {E : L2.St → XK} {m : Str} {pos apos : Pos} {e o : Expr} {es : List Expr} {ta : TE} {t : L2.TA} {pl : Sem Bool} (he : PE X o ta) (c : Cls X.K C) (hm : Meth X.K C m f) (F : FnOk X.prog X.w X.K X.mg X.base CX k f fd ps sp) (hr : Room k X.A) (hb : Binds X.K fd ps []) (hx : ∀ σ, PassesAt CX X σ (E σ)) (ha : PA X (e :: es) t)
    (hst : starEach (e :: es) X.env = (false, eval e X.env) :: starEach es X.env := by rfl) (hpl : (backTo pos (starEach es X.env)).any (·.1) = false := by rfl)
    (ht : eval (.Call (.Attribute o m apos) (e :: es) [] pos) X.env = (do
      let ov ← eval o X.env
      standAt apos.atName
      let (f, first) ← holding [ov] (getMethod ov m pl)
      callWith pos f first (backTo pos (starEach (e :: es) X.env)) (backToKw pos (keywordEach [] X.env))) := by rfl) :
    PE X (.Call (.Attribute o m apos) (e :: es) [] pos) (tMethE C m sp E ta t) := by
  refine ⟨fun pins s σ H Q I h => ?_⟩
  refine PySem.W.methodCall_KW (pl := pl) (thn (he.run pins s σ H _ I h) fun u s1 ⟨x, H1, I1, rx, a, dx, fs, ex, ea, l, q⟩ => ?_) ht
  subst ex
  obtain rfl : u = Value.ref a := rx
  refine getmeth_ok I1 ea c hm l ?_
  refine PySem.W.callWith_K (first := [.ref a]) (h₀ := X.base) I.ok.mod.kin hm.kp (thn (ha.run pos pins s1 σ H1 _ I1 q) fun us s2 ⟨vs, H2, I2, r, q2⟩ => ⟨I2.kIn, ?_⟩) hst hpl
  exact run_fnS (us := .ref a :: us) (vs := .ref a :: vs) F hr hb (hx σ) I2 (.cons rfl r) q2
structure RaiseC (K : PySem.W.Frag) (mg : Str → Option Value) (n : Str) (C : Addr) : Prop where
  m : mg n = some (.ref C)
  x : PySem.W.excIn K C [.type "ValueError", .type "Exception", .type "BaseException", .type "object"] "ValueError.__new__" = true
  k : PySem.W.keepIn K (.ref C) = true
  b : PySem.W.subIn K (.ref C) (.type "BaseException") = some true
  t : PySem.W.typeIn K (.ref C) = some (.type "type")
/-- what the law asks of the refusal -/
structure SaidC (K : PySem.W.Frag) (mg : Str → Option Value) (cA cH cN : Addr) : Prop where
  isi : mg "isinstance" = none
  a : mg "AloneError" = some (.ref cA)
  h : mg "NoHand" = some (.ref cH)
  n : mg "NoTask" = some (.ref cN)
  t : ExcC K cH
  e : PySem.W.exmOne K (.ref cH) (.ref cA) = some true
  kh : PySem.W.kitOne K (.ref cH) (.ref cH) = some true
  kn : PySem.W.kitOne K (.ref cH) (.ref cN) = some false
end TA

set_option Elab.async false
set_option maxRecDepth 100000
set_option maxHeartbeats 4000000
namespace TA
open PySem L2 PyProof.Rows
set_option linter.unusedVariables false
/-! two tasks at once -/
def jo (x y : Int) : Int := 8 * x + y
def jrow (r m : List Int) : List Int := r.flatMap fun x => m.map fun y => jo x y
def jrows (rs os : List (List Int)) : List (List Int) := rs.flatMap fun r => os.map fun m => jrow r m
def joP (p q : Int × Int) : Int × Int := (jo p.1 q.1, jo p.2 q.2)
def jraw (l m : List (Int × Int)) : List (Int × Int) := l.flatMap fun p => m.map fun q => joP p q
def jpairs (a b : BD) : List (EB × EB) := a.flatMap fun e => b.map fun f => (e, f)
def jkey (w0 w1 : Nat) (e f : IP) : IP := (e.1 * w0 + f.1, e.2 * w1 + f.2)
structure JnE (w0 w1 : Nat) (z : EB × EB) (g : EB) : Prop where
  key : g.1 = jkey w0 w1 z.1.1 z.2.1
  pm : g.2.Perm (jraw z.1.2 z.2.2)
  pw : g.2.Pairwise ltP
structure JnT (T S U : TD) : Prop where
  al : ∀ h, h < 2 → U.al h = jrows (T.al h) (S.al h)
  bo : A2 (JnE (S.al 0).length (S.al 1).length) (jpairs T.bo S.bo) U.bo
/-- no output above 7, and few of each kind -/
structure Low (T : TD) : Prop where
  row : ∀ h, h < 2 → ∀ r ∈ T.al h, r.length ≤ 7 ∧ ∀ x ∈ r, x ≤ 7
  lets : ∀ e ∈ T.bo, e.2.length ≤ 14 ∧ ∀ p ∈ e.2, p.1 ≤ 7 ∧ p.2 ≤ 7
theorem len_flat {α β γ : Type} {f : α → β → γ} (l : List α) (m : List β) : (l.flatMap fun x => m.map (f x)).length = l.length * m.length := by
  induction l with
  | nil => simp
  | cons x l ih => rw [List.flatMap_cons, List.length_append, ih, List.length_map, List.length_cons, Nat.succ_mul]; omega
theorem mem_flat {α β γ : Type} {f : α → β → γ} {l : List α} {m : List β} {z : γ} : z ∈ (l.flatMap fun x => m.map (f x)) ↔ ∃ x ∈ l, ∃ y ∈ m, f x y = z := by
  rw [List.mem_flatMap]
  constructor
  · rintro ⟨x, hx, h⟩
    obtain ⟨y, hy, e⟩ := List.mem_map.mp h
    exact ⟨x, hx, y, hy, e⟩
  · rintro ⟨x, hx, y, hy, e⟩
    exact ⟨x, hx, List.mem_map.mpr ⟨y, hy, e⟩⟩
theorem pw_flat {α β γ : Type} {R : γ → γ → Prop} {f : α → β → γ} {l : List α} {m : List β} {P : α → α → Prop} {Q : β → β → Prop} (hl : l.Pairwise P) (hm : m.Pairwise Q) (h1 : ∀ x ∈ l, ∀ y ∈ m, ∀ z ∈ m, Q y z → R (f x y) (f x z)) (h2 : ∀ x ∈ l, ∀ x' ∈ l, P x x' → ∀ y ∈ m, ∀ z ∈ m, R (f x y) (f x' z)) :
    (l.flatMap fun x => m.map (f x)).Pairwise R := by
  rw [List.pairwise_flatMap]
  refine ⟨fun x hx => ?_, hl.imp_of_mem fun {x x'} hx hx' p a ha b hb => ?_⟩
  · rw [List.pairwise_map]
    exact hm.imp_of_mem fun {y z} hy hz q => h1 x hx y hy z hz q
  · obtain ⟨y, hy, rfl⟩ := List.mem_map.mp ha
    obtain ⟨z, hz, rfl⟩ := List.mem_map.mp hb
    exact h2 x hx x' hx' p y hy z hz
theorem jrow_ok {r m : List Int} (hr : okRow r) (hm : okRow m) (lr : r.length ≤ 7 ∧ ∀ x ∈ r, x ≤ 7) (lm : m.length ≤ 7 ∧ ∀ x ∈ m, x ≤ 7) : okRow (jrow r m) := by
  have len : (jrow r m).length = r.length * m.length := len_flat r m
  refine ⟨?_, ?_, ?_, fun z hz => ?_⟩
  · rw [len]
    exact Nat.mul_pos hr.1 hm.1
  · rw [len]
    exact Nat.le_trans (Nat.mul_le_mul lr.1 lm.1) (by decide)
  · refine pw_flat hr.2.2.1 hm.2.2.1 (fun x hx y hy z hz q => ?_) (fun x hx x' hx' p y hy z hz => ?_)
    · show jo x y < jo x z
      unfold jo; omega
    · show jo x y < jo x' z
      have := hm.2.2.2 z hz
      have := lm.2 y hy
      have h1 := (hm.2.2.2 z hz).1
      unfold jo; omega
  · obtain ⟨x, hx, y, hy, rfl⟩ := mem_flat.mp hz
    have h1 := (hr.2.2.2 x hx).1
    have h2 := lr.2 x hx
    have h3 := (hm.2.2.2 y hy).1
    have h4 := lm.2 y hy
    unfold jo okOut
    omega
theorem jraw_nodup {l m : List (Int × Int)} (hl : l.Pairwise ltP) (hm : m.Pairwise ltP) (lm : ∀ p ∈ m, (0 ≤ p.1 ∧ 0 ≤ p.2) ∧ p.1 ≤ 7 ∧ p.2 ≤ 7) : (jraw l m).Nodup := by
  refine pw_flat (P := (· ≠ ·)) (Q := (· ≠ ·)) (hl.imp fun {p q} h c => ?_) (hm.imp fun {p q} h c => ?_) (fun x hx y hy z hz q c => q ?_) (fun x hx x' hx' p y hy z hz c => p ?_)
  · subst c; rcases h with h | ⟨_, h⟩ <;> omega
  · subst c; rcases h with h | ⟨_, h⟩ <;> omega
  · have e1 : jo x.1 y.1 = jo x.1 z.1 := congrArg Prod.fst c
    have e2 : jo x.2 y.2 = jo x.2 z.2 := congrArg Prod.snd c
    unfold jo at e1 e2
    exact Prod.ext (by omega) (by omega)
  · have e1 : jo x.1 y.1 = jo x'.1 z.1 := congrArg Prod.fst c
    have e2 : jo x.2 y.2 = jo x'.2 z.2 := congrArg Prod.snd c
    obtain ⟨⟨a1, a2⟩, a3, a4⟩ := lm y hy
    obtain ⟨⟨b1, b2⟩, b3, b4⟩ := lm z hz
    unfold jo at e1 e2
    exact Prod.ext (by omega) (by omega)
theorem low_let {T : TD} (W : WF T) (L : Low T) {e : EB} (he : e ∈ T.bo) : ∀ p ∈ e.2, (0 ≤ p.1 ∧ 0 ≤ p.2) ∧ p.1 ≤ 7 ∧ p.2 ≤ 7 := fun p hp => by
  have h := (W.lets e he).2.2.2 p hp
  exact ⟨⟨h.1.1, h.2.1⟩, (L.lets e he).2 p hp⟩
theorem JnE.ok {w0 w1 : Nat} {T S : TD} (W : WF T) (V : WF S) (L : Low T) (M : Low S) {e f g : EB} (he : e ∈ T.bo) (hf : f ∈ S.bo) (J : JnE w0 w1 (e, f) g) : okLet g.2 := by
  have len : g.2.length = e.2.length * f.2.length := J.pm.length_eq.trans (len_flat e.2 f.2)
  refine ⟨?_, ?_, J.pw, fun p hp => ?_⟩
  · rw [len]
    exact Nat.mul_pos (W.lets e he).1 (V.lets f hf).1
  · rw [len]
    exact Nat.le_trans (Nat.mul_le_mul (L.lets e he).1 (M.lets f hf).1) (by decide)
  · obtain ⟨x, hx, y, hy, rfl⟩ := mem_flat.mp (J.pm.mem_iff.mp hp)
    obtain ⟨⟨a1, a2⟩, a3, a4⟩ := low_let W L he x hx
    obtain ⟨⟨b1, b2⟩, b3, b4⟩ := low_let V M hf y hy
    unfold joP jo okOut
    dsimp only
    omega
theorem mul_add_one {a a' c c' w : Nat} (h : a * w + c = a' * w + c') (hc : c < w) (hc' : c' < w) : a = a' ∧ c = c' := by
  have h1 : (a * w + c) / w = a := by rw [Nat.mul_comm, Nat.mul_add_div (by omega), Nat.div_eq_of_lt hc]; omega
  have h2 : (a' * w + c') / w = a' := by rw [Nat.mul_comm, Nat.mul_add_div (by omega), Nat.div_eq_of_lt hc']; omega
  have e : a = a' := by rw [← h1, h, h2]
  subst e
  exact ⟨rfl, by omega⟩
theorem jkeys {w0 w1 : Nat} : ∀ {zs : List (EB × EB)} {bo : BD}, A2 (JnE w0 w1) zs bo → bo.map (·.1) = zs.map fun z => jkey w0 w1 z.1.1 z.2.1
  | _, _, .nil => rfl
  | _, _, .cons a r => by rw [List.map_cons, List.map_cons, jkeys r, a.key]
theorem A2.backJ {α β : Type} {R : α → β → Prop} {xs : List α} {ys : List β} {y : β} (h : A2 R xs ys) (m : y ∈ ys) : ∃ x, x ∈ xs ∧ R x y := by
  obtain ⟨i, hi⟩ := List.getElem?_of_mem m
  obtain ⟨x, hx, r⟩ := h.at hi
  exact ⟨x, List.mem_of_getElem? hx, r⟩
theorem JnT.wf {T S U : TD} (W : WF T) (V : WF S) (L : Low T) (M : Low S) (hn : ∀ h, h < 2 → (T.al h).length * (S.al h).length ≤ 20) (hb : T.bo.length * S.bo.length ≤ 60) (J : JnT T S U) : WF U := by
  have len : ∀ h, h < 2 → (U.al h).length = (T.al h).length * (S.al h).length := fun h hh => by rw [J.al h hh]; exact len_flat (f := jrow) _ _
  have pr : ∀ g ∈ U.bo, ∃ e ∈ T.bo, ∃ f ∈ S.bo, JnE (S.al 0).length (S.al 1).length (e, f) g := fun g hg => by
    obtain ⟨z, hz, r⟩ := J.bo.backJ hg
    obtain ⟨e, he, f, hf, rfl⟩ := mem_flat.mp hz
    exact ⟨e, he, f, hf, r⟩
  have fw : ∀ e ∈ T.bo, ∀ f ∈ S.bo, ∃ g ∈ U.bo, g.1 = jkey (S.al 0).length (S.al 1).length e.1 f.1 := fun e he f hf => by
    obtain ⟨g, hg, r⟩ := J.bo.mem (mem_flat.mpr ⟨e, he, f, hf, rfl⟩ : (e, f) ∈ jpairs T.bo S.bo)
    exact ⟨g, hg, r.key⟩
  have lt2 : ∀ {a c n w : Nat}, a < n → c < w → a * w + c < n * w := fun {a c n w} h1 h2 => by
    have := Nat.mul_le_mul_right w h1
    rw [Nat.succ_mul] at this
    omega
  exact {
    n0 := fun h hh => by
      rw [len h hh]
      exact ⟨Nat.mul_pos (W.n0 h hh).1 (V.n0 h hh).1, hn h hh⟩
    row := fun h hh r hr => by
      rw [J.al h hh] at hr
      obtain ⟨x, hx, y, hy, rfl⟩ := mem_flat.mp hr
      exact jrow_ok (W.row h hh x hx) (V.row h hh y hy) (L.row h hh x hx) (M.row h hh y hy)
    srt := by
      rw [jkeys J.bo]
      have e : ((jpairs T.bo S.bo).map fun z => jkey (S.al 0).length (S.al 1).length z.1.1 z.2.1) = T.bo.flatMap fun e => S.bo.map fun f => jkey (S.al 0).length (S.al 1).length e.1 f.1 := by
        unfold jpairs
        rw [List.map_flatMap]
        simp only [List.map_map]
        rfl
      rw [e]
      refine pw_flat (List.pairwise_map.mp W.srt) (List.pairwise_map.mp V.srt) (fun x hx y hy z hz q c => q ?_) (fun x hx x' hx' p y hy z hz c => p ?_)
      · have h1 := V.rng y hy
        have h2 := V.rng z hz
        have c1 : x.1.1 * (S.al 0).length + y.1.1 = x.1.1 * (S.al 0).length + z.1.1 := congrArg Prod.fst c
        have c2 : x.1.2 * (S.al 1).length + y.1.2 = x.1.2 * (S.al 1).length + z.1.2 := congrArg Prod.snd c
        exact Prod.ext (by omega) (by omega)
      · have h1 := V.rng y hy
        have h2 := V.rng z hz
        have c1 : x.1.1 * (S.al 0).length + y.1.1 = x'.1.1 * (S.al 0).length + z.1.1 := congrArg Prod.fst c
        have c2 : x.1.2 * (S.al 1).length + y.1.2 = x'.1.2 * (S.al 1).length + z.1.2 := congrArg Prod.snd c
        exact Prod.ext (mul_add_one c1 h1.1 h2.1).1 (mul_add_one c2 h1.2 h2.2).1
    rng := fun g hg => by
      obtain ⟨e, he, f, hf, r⟩ := pr g hg
      have h1 := W.rng e he
      have h2 := V.rng f hf
      rw [r.key, len 0 (by decide), len 1 (by decide)]
      exact ⟨lt2 h1.1 h2.1, lt2 h1.2 h2.2⟩
    lets := fun g hg => by
      obtain ⟨e, he, f, hf, r⟩ := pr g hg
      exact r.ok W V L M he hf
    com0 := fun x hx => by
      rw [len 0 (by decide)] at hx
      have wp := (V.n0 0 (by decide)).1
      obtain ⟨e, he, k1⟩ := W.com0 (x / (S.al 0).length) ((Nat.div_lt_iff_lt_mul wp).mpr hx)
      obtain ⟨f, hf, k2⟩ := V.com0 (x % (S.al 0).length) (Nat.mod_lt _ wp)
      obtain ⟨g, hg, k3⟩ := fw e he f hf
      exact ⟨g, hg, by rw [k3]; show e.1.1 * _ + f.1.1 = x; rw [k1, k2, Nat.mul_comm]; exact Nat.div_add_mod _ _⟩
    com1 := fun x hx => by
      rw [len 1 (by decide)] at hx
      have wp := (V.n0 1 (by decide)).1
      obtain ⟨e, he, k1⟩ := W.com1 (x / (S.al 1).length) ((Nat.div_lt_iff_lt_mul wp).mpr hx)
      obtain ⟨f, hf, k2⟩ := V.com1 (x % (S.al 1).length) (Nat.mod_lt _ wp)
      obtain ⟨g, hg, k3⟩ := fw e he f hf
      exact ⟨g, hg, by rw [k3]; show e.1.2 * _ + f.1.2 = x; rw [k1, k2, Nat.mul_comm]; exact Nat.div_add_mod _ _⟩
    many := by
      rw [← J.bo.len]
      exact Nat.le_trans (Nat.le_of_eq (len_flat (f := Prod.mk) _ _)) hb }
end TA

set_option Elab.async false
set_option maxRecDepth 100000
set_option maxHeartbeats 4000000
namespace TA
open PySem L2 PyProof.Rows
set_option linter.unusedVariables false
theorem valT_turns {d : Addr} {o : Obj} {kvs : List (List Key × V)} {H0 : Hp} {Qd : Hp → Prop} {B : (Hp → Prop) → V → Hp → Prop} (Pv : Nat → Hp → Prop) (start : Pv 0 H0) (still : ∀ i H, Pv i H → H d = some (.frz o (.dT kvs)))
    (turn : ∀ i k v H, kvs[i]? = some (k, v) → Pv i H → B (Pv (i + 1)) v H) (last : ∀ H, Pv kvs.length H → Qd H) :
    ∃ W : Nat → Nat → Hp → Prop, (∃ m, W 0 m H0) ∧ ∀ i m H, W i m H →
      ((Itvt d o kvs).stop i H ∧ Qd H) ∨ ((Itvt d o kvs).go i H ∧ ∃ Nx : Hp → Prop, (∀ H', Nx H' → ∃ m', m' < m ∧ W (i + 1) m' H') ∧ ∀ x H', (Itvt d o kvs).yld i H x H' → B Nx x H') :=
  turns kvs.length Pv start (fun H w => ⟨⟨still _ H w, Nat.le_refl _⟩, last H w⟩) fun i H hi w => ⟨⟨still i H w, hi⟩, fun x H' ⟨e, k, e1⟩ => by rw [e]; exact turn i k x H e1 w⟩
/-! the greatest output -/
def outsA (T : TD) : List Int := (T.al 0).flatten ++ (T.al 1).flatten
def outsP (l : List (Int × Int)) : List Int := l.flatMap fun p => [p.1, p.2]
def outsQ (bo : BD) : List Int := bo.flatMap fun e => outsP e.2
def spGreat (C : Addr) : Sp := fun vs H Q _ => ∃ (p : Addr) (T : TD), vs = [.ref p] ∧ TaskAt C H p T ∧ WF T ∧ ∀ (g : Int) (H' : Hp), Same H H' → g ∈ outsA T ++ outsQ T.bo → (∀ x ∈ outsA T ++ outsQ T.bo, x ≤ g) → Q (.int g) H'
theorem take_flat {α β : Type} (f : α → List β) {l : List α} {i : Nat} {x : α} (h : l[i]? = some x) : (l.take (i + 1)).flatMap f = (l.take i).flatMap f ++ f x := by
  rw [take_get h, List.flatMap_append]
  simp
theorem flat_le {α β : Type} (f : α → List β) (n : Nat) : ∀ (l : List α), (∀ x ∈ l, (f x).length ≤ n) → (l.flatMap f).length ≤ n * l.length
  | [], _ => by simp
  | x :: l, h => by
    rw [List.flatMap_cons, List.length_append, List.length_cons, Nat.mul_succ]
    have := h x List.mem_cons_self
    have := flat_le f n l fun y hy => h y (List.mem_cons_of_mem _ hy)
    omega
section
variable {P : Program} {w : World} {K : PySem.W.Frag} {mg : Str → Option Value} {base : Heap}
abbrev nGr : List Str := ["task", "alone", "both", "rows", "outputs", "x", "let", "pair"]
theorem sc_gr : FnScope nGr ["task"] (defScope s_greatest_output) := ⟨rfl, rfl, rfl, by decide +kernel, rfl, by decide +kernel, by decide +kernel⟩
theorem ok_gr {f C : Addr} {fd : FuncData} (F : Fun K "greatest_output" "greatest_output" s_greatest_output f fd) (T2 : Txt2 K mg) (Z : TxtC K mg C) : FnOk P w K mg base CX0 1 f fd ["task"] (spGreat C) := by
  refine F.ok sc_gr (fun vs H Q E h => ?_) (fun cdv A outer s H vs Q E hr h => ?_)
  · obtain ⟨p, D, rfl, _⟩ := h
    rfl
  obtain ⟨p, D, rfl, hT, hW, q⟩ := h
  have nd := sc_gr.nd
  refine ⟨_, (pss_cons (ps_setLc3 (i := 1) (own := [("rows", 3), ("outputs", 4), ("x", 5)]) (vs1 := [4, 5]) (vs2 := [5]) (wi1 := iList K (tVar 3)) (tt1 := tYes) (wi2 := iList K (tVar 4)) (tt2 := tYes) (te := tVar 5) rfl nd rfl rfl (sw_true rfl rfl rfl (by decide +kernel)) (by decide) (by decide) (pi_list (pe_fld (pv 0) rfl)) (blkOk_by (N := nGr) (sc := defScope s_greatest_output) (by decide +kernel))
      (fun _ _ _ _ _ => pg_name (i := 3) nd rfl (Or.inl rfl)) (fun _ _ _ _ _ => pts_nil) (fun _ _ _ _ _ => pi_list (pv 3)) (fun _ _ _ _ _ => pg_name (i := 4) nd rfl (Or.inl rfl)) (fun _ _ _ _ _ => pts_nil) (fun _ _ _ _ _ => pi_list (pv 4)) (fun _ _ _ _ _ => pg_name (i := 5) nd rfl (Or.inl rfl)) (fun _ _ _ _ _ => pts_nil) (fun _ _ _ _ _ => pv 5))
    (pss_cons (ps_lock (ps_setLc3 (i := 2) (own := [("let", 6), ("pair", 7), ("x", 5)]) (vs1 := [7, 5]) (vs2 := [5]) (wi1 := iList K (tVar 6)) (tt1 := tYes) (wi2 := iTup K (tVar 7)) (tt2 := tYes) (te := tVar 5) rfl nd rfl rfl (sw_true rfl rfl rfl (by decide +kernel)) (by decide) (by decide) (pi_valuesT (pe_fld (pv 0) rfl)) (blkOk_by (N := nGr) (sc := defScope s_greatest_output) (by decide +kernel))
      (fun _ _ _ _ _ => pg_name (i := 6) nd rfl (Or.inl rfl)) (fun _ _ _ _ _ => pts_nil) (fun _ _ _ _ _ => pi_list (pv 6)) (fun _ _ _ _ _ => pg_name (i := 7) nd rfl (Or.inl rfl)) (fun _ _ _ _ _ => pts_nil) (fun _ _ _ _ _ => pi_tup (pv 7)) (fun _ _ _ _ _ => pg_name (i := 5) nd rfl (Or.inl rfl)) (fun _ _ _ _ _ => pts_nil) (fun _ _ _ _ _ => pv 5)))
    (pss_one (ps_ret (pe_callB (cr_max rfl) (by rfl) T2.max (by decide +kernel) (pa_cons (pe_op op_cat (pv 1) (pv 2)) pa_nil)))))), ?_⟩
  obtain ⟨dx, aa, d, hp, hA, hB⟩ := hT
  obtain ⟨t, xs, e, hal, hrows⟩ := al_rows hA
  obtain rfl : aa = t := by injection e
  have rlen : ∀ rows ∈ [D.al 0, D.al 1], rows.length ≤ 20 ∧ ∀ r ∈ rows, r.length ≤ 60 := fun rows hm => by
    rcases List.mem_cons.mp hm with rfl | hm
    · exact ⟨(hW.n0 0 (by decide)).2, fun r hr => (hW.row 0 (by decide) r hr).2.1⟩
    · obtain rfl := List.mem_singleton.mp hm
      exact ⟨(hW.n0 1 (by decide)).2, fun r hr => (hW.row 1 (by decide) r hr).2.1⟩
  refine ⟨_, rfl, p, C, dx, _, _, rfl, hp, Z.cl, Z.nA, flds_alone _ _, aa, rfl, ⟨_, SqL.of hal⟩, fun D1 hD1 => ?_⟩
  refine list_turns (xs := xs) (fun i H' => Same H H' ∧ ∃ ns : List Int, H' D1 = some (.lst (ns.map V.int)) ∧ ns = ([D.al 0, D.al 1].take i).flatMap List.flatten ∧ ns.length ≤ 1200 * i) ⟨same_new hD1 _, [], upd_same, rfl, Nat.zero_le _⟩ (fun i H' _ h => SqL.of (h.1 _ _ hal)) ?_ ?_
  · rintro i x H' hx ⟨s1, ns, e1, en, ln⟩
    obtain ⟨rows, hr1, t, zs, rfl, ht, az⟩ := hrows.get hx
    have rl := rlen rows (List.mem_of_getElem? hr1)
    refine ⟨rfl, _, rfl, t, rfl, ⟨_, SqL.of (s1 _ _ ht)⟩, ?_⟩
    refine list_turns (xs := zs) (fun j H2 => Same H H2 ∧ ∃ ms : List Int, H2 D1 = some (.lst (ms.map V.int)) ∧ ms = ns ++ (rows.take j).flatten ∧ ms.length ≤ 1200 * i + 60 * j) ⟨s1, ns, e1, by simp, ln⟩ (fun j H2 _ h => SqL.of (h.1 _ _ ht)) ?_ ?_
    · rintro j z H2 hz ⟨s2, ms, e2, em, lm⟩
      obtain ⟨row, hr2, tt, rfl, htt⟩ := az.get hz
      have rl2 := rl.2 row (List.mem_of_getElem? hr2)
      have hj : j < rows.length := (List.getElem?_eq_some_iff.mp hr2).1
      refine ⟨rfl, _, rfl, tt, rfl, ⟨_, SqL.of (s2 _ _ htt)⟩, ?_⟩
      refine list_turns (xs := row.map V.int) (fun k H3 => Same H H3 ∧ ∃ os : List Int, H3 D1 = some (.lst (os.map V.int)) ∧ os = ms ++ row.take k ∧ os.length ≤ 1200 * i + 60 * j + k) ⟨s2, ms, e2, by simp, lm⟩ (fun k H3 _ h => SqL.of (h.1 _ _ htt)) ?_ ?_
      · rintro k v H3 hv ⟨s3, os, e3, eo, lo⟩
        rw [List.getElem?_map] at hv
        obtain ⟨o, ho, rfl⟩ := Option.map_eq_some_iff.mp hv
        have hk : k < row.length := (List.getElem?_eq_some_iff.mp ho).1
        have hi : i < 2 := (List.getElem?_eq_some_iff.mp hr1).1
        refine ⟨rfl, _, rfl, _, e3, ?_, same_upd s3 hD1, os ++ [o], by rw [upd_same, List.map_append]; rfl, by rw [eo, take_get ho, List.append_assoc], by rw [List.length_append]; show os.length + 1 ≤ _; omega⟩
        rw [List.length_map]
        exact Nat.lt_of_lt_of_le (show os.length < 100000 by omega) (by decide)
      · rintro H3 ⟨s3, os, e3, eo, lo⟩
        rw [List.length_map, List.take_length] at eo
        refine ⟨s3, os, e3, ?_, by rw [eo, List.length_append]; omega⟩
        rw [eo, em, take_get hr2, List.flatten_append]
        simp
    · rintro H2 ⟨s2, ms, e2, em, lm⟩
      rw [az.len, List.take_length] at em
      have := rl.1
      rw [az.len] at lm
      refine ⟨s2, ms, e2, ?_, by omega⟩
      rw [em, en, take_flat List.flatten hr1]
  rintro H1 ⟨s1, ns, e1, en, ln⟩
  rw [hrows.len] at en
  have en : ns = outsA D := by rw [en]; unfold outsA; simp
  obtain ⟨kvs, hd, ha⟩ := hB.mono s1
  have hp1 := s1 _ _ hp
  refine ⟨d, _, hd, trivial, fun od => ?_⟩
  have hd6 : (upd H1 d (.frz od (.dT kvs))) d = some (.frz od (.dT kvs)) := upd_same
  have npd : p ≠ d := ne_of hp1 hd (fun z => by cases z)
  refine ⟨_, rfl, p, C, dx, _, _, rfl, (by rw [upd_ne npd]; exact hp1), Z.cl, Z.nB, flds_both _ _, d, od, kvs, rfl, hd6, fun L hL => ?_⟩
  have nL : d ≠ L := ne_of_none hd6 hL
  have hLn : H1 L = none := none_of_but But.at (Ne.symm nL) hL
  have kpl : Kp H1 (upd H1 d (.frz od (.dT kvs))) := Kp.put hd nf_dT
  have hal2 := ha.imp fun _ _ r => EnAt.mono kpl r
  have blk : But d H1 (upd H1 d (.frz od (.dT kvs))) := But.at
  generalize upd H1 d (.frz od (.dT kvs)) = Hl at hd6 hL kpl hal2 blk ⊢
  have lb := hW.many
  refine valT_turns (fun i H' => Same Hl H' ∧ ∃ ms : List Int, H' L = some (.lst (ms.map V.int)) ∧ ms = (D.bo.take i).flatMap (fun e => outsP e.2) ∧ ms.length ≤ 400 * i) ⟨same_new hL _, [], upd_same, rfl, Nat.zero_le _⟩ (fun i H' h => h.1 _ _ hd6) ?_ ?_
  · rintro i k v H' hi ⟨s2, ms, e2, em, lm⟩
    obtain ⟨eb, hbi, ek, lt, lxs, ev, hlt, alx⟩ := hal2.get hi
    dsimp only at ek ev
    subst ek ev
    have okl := hW.lets eb (List.mem_of_getElem? hbi)
    have hil : i < D.bo.length := (List.getElem?_eq_some_iff.mp hbi).1
    refine ⟨rfl, _, rfl, lt, rfl, ⟨_, SqL.of (s2 _ _ hlt)⟩, ?_⟩
    refine list_turns (xs := lxs) (fun j H2 => Same Hl H2 ∧ ∃ os : List Int, H2 L = some (.lst (os.map V.int)) ∧ os = ms ++ outsP (eb.2.take j) ∧ os.length ≤ 400 * i + 2 * j) ⟨s2, ms, e2, by simp [outsP], lm⟩ (fun j H2 _ h => SqL.of (h.1 _ _ hlt)) ?_ ?_
    · rintro j z H2 hz ⟨s3, os, e3, eo, lo⟩
      obtain ⟨o, ho, tt, rfl, htt⟩ := alx.get hz
      have hj : j < eb.2.length := (List.getElem?_eq_some_iff.mp ho).1
      have := okl.2.1
      refine ⟨rfl, _, rfl, tt, rfl, ⟨_, SqT.of (s3 _ _ htt)⟩, ?_⟩
      refine tup_turns (xs := [V.int o.1, V.int o.2]) (fun k H3 => Same Hl H3 ∧ ∃ us : List Int, H3 L = some (.lst (us.map V.int)) ∧ us = os ++ [o.1, o.2].take k ∧ us.length ≤ 400 * i + 2 * j + k) ⟨s3, os, e3, by simp, lo⟩ (fun k H3 _ h => SqT.of (h.1 _ _ htt)) ?_ ?_
      · rintro k v H3 hv ⟨s4, us, e4, eu, lu⟩
        obtain ⟨u, hu, rfl⟩ : ∃ u, [o.1, o.2][k]? = some u ∧ V.int u = v := by
          match k, hv with
          | 0, hv => exact ⟨_, rfl, by simpa using hv⟩
          | 1, hv => exact ⟨_, rfl, by simpa using hv⟩
        have hk : k < 2 := (List.getElem?_eq_some_iff.mp hu).1
        refine ⟨rfl, _, rfl, _, e4, ?_, same_upd s4 hL, us ++ [u], by rw [upd_same, List.map_append]; rfl, by rw [eu, take_get hu, List.append_assoc], by rw [List.length_append]; show us.length + 1 ≤ _; omega⟩
        rw [List.length_map]
        exact Nat.lt_of_lt_of_le (show us.length < 100000 by omega) (by decide)
      · rintro H3 ⟨s4, us, e4, eu, lu⟩
        refine ⟨s4, us, e4, ?_, by have : us.length ≤ 400 * i + 2 * j + 2 := lu; omega⟩
        have eu : us = os ++ [o.1, o.2] := eu
        rw [eu, eo, List.append_assoc]
        congr 1
        unfold outsP
        rw [take_flat (fun p : Int × Int => [p.1, p.2]) ho]
    · rintro H2 ⟨s3, os, e3, eo, lo⟩
      rw [alx.len, List.take_length] at eo
      have := okl.2.1
      rw [alx.len] at lo
      refine ⟨s3, os, e3, ?_, by omega⟩
      rw [eo, em, take_flat (fun e : EB => outsP e.2) hbi]
  rintro H6 ⟨s2, ms, e2, em, lm⟩
  rw [hal2.len, List.take_length] at em
  have hd7 := s2 _ _ hd6
  have s6 : Same H1 (upd H6 d (.dT kvs)) := (blk.trans (.same s2)).unlock hd
  have e27 : (upd H6 d (.dT kvs)) L = some (.lst (ms.map V.int)) := by rw [upd_ne (Ne.symm nL)]; exact e2
  refine ⟨hd7, ?_⟩
  generalize upd H6 d (.dT kvs) = H7 at s6 e27 ⊢
  rw [hal2.len] at lm
  refine ⟨_, rfl, _, rfl, D1, L, _, _, rfl, rfl, s6 _ _ e1, e27, ?_, fun N hN => ?_⟩
  · rw [List.length_map, List.length_map]
    exact Nat.le_trans (show ns.length + ms.length ≤ 100000 by have : ns.length ≤ 1200 * xs.length := ln; rw [hrows.len] at this; have h2 : ([D.al 0, D.al 1] : List (List (List Int))).length = 2 := rfl; omega) (by decide)
  have s8 := same_new hN (.lst (ns.map V.int ++ ms.map V.int))
  have e8 : (upd H7 N (.lst (ns.map V.int ++ ms.map V.int))) N = some (.lst ((ns ++ ms).map V.int)) := by rw [upd_same, List.map_append]
  have all : ns ++ ms = outsA D ++ outsQ D.bo := by rw [en, em]; rfl
  refine ⟨N, ns ++ ms, rfl, SqL.of e8, ?_, fun g hg hmax => ?_⟩
  · rw [all, List.length_append]
    have : 0 < (outsA D).length := by
      unfold outsA
      have h0 := hW.n0 0 (by decide)
      cases e0 : D.al 0 with
      | nil => rw [e0] at h0; exact absurd h0.1 (by simp)
      | cons r rs =>
        have hr := (hW.row 0 (by decide) r (by rw [e0]; exact List.mem_cons_self)).1
        rw [List.flatten_cons, List.length_append, List.length_append]
        omega
    omega
  · rw [all] at hg hmax
    exact q g _ ((s1.trans s6).trans s8) hg hmax
end
end TA

set_option Elab.async false
set_option maxRecDepth 100000
set_option maxHeartbeats 4000000
namespace TA
open PySem L2 PyProof.Rows
set_option linter.unusedVariables false
def dec (H : Hp) : V → Int × Int
  | .ref t => match H t with
    | some (.tup [.int x, .int y]) => (x, y)
    | _ => (0, 0)
  | _ => (0, 0)
theorem dec_eq {H : Hp} {v : V} {p : Int × Int} (h : TpAt H v p) : dec H v = p := by
  obtain ⟨t, rfl, e⟩ := h
  show (match H t with
    | some (.tup [.int x, .int y]) => (x, y)
    | _ => (0, 0)) = p
  rw [e]
theorem dec_all {H : Hp} : ∀ {xs : List V} {l : List (Int × Int)}, A2 (TpAt H) xs l → l = xs.map (dec H)
  | _, _, .nil => rfl
  | _, _, .cons a b => by rw [List.map_cons, dec_eq a, ← dec_all b]
theorem dec_of {H : Hp} : ∀ {xs : List V}, (∀ v ∈ xs, TpAt H v (dec H v)) → A2 (TpAt H) xs (xs.map (dec H))
  | [], _ => .nil
  | v :: xs, h => .cons (h v List.mem_cons_self) (dec_of fun x hx => h x (List.mem_cons_of_mem _ hx))
theorem tp_perm {H : Hp} {xs ys : List V} {l : List (Int × Int)} (a : A2 (TpAt H) xs l) (p : ys.Perm xs) : A2 (TpAt H) ys (ys.map (dec H)) ∧ (ys.map (dec H)).Perm l := by
  refine ⟨dec_of fun v hv => ?_, ?_⟩
  · obtain ⟨y, _, hy⟩ := a.mem (p.mem_iff.mp hv)
    rw [dec_eq hy]
    exact hy
  · rw [dec_all a]
    exact p.map _

/-- what is new alone -/
def nwn (H0 H' : Hp) : Hp := fun b => if H0 b = none then H' b else none
theorem nwn_some {H0 H' : Hp} {b : Addr} {o : HO} (h : nwn H0 H' b = some o) : H0 b = none ∧ H' b = some o := by
  unfold nwn at h
  split at h
  · rename_i c; exact ⟨c, h⟩
  · cases h
theorem nwn_put {H0 H' : Hp} {b : Addr} {o : HO} (c : H0 b = none) (h : H' b = some o) : nwn H0 H' b = some o := by
  unfold nwn
  rw [if_pos c, h]
theorem kp_nwn {H0 H' : Hp} : Kp (nwn H0 H') H' := fun b o _ h => (nwn_some h).2
theorem nwx_nwn {H0 H' : Hp} {D : Addr} : Kp (nwx H0 D H') (nwn H0 H') := fun b o _ h => by
  unfold nwx at h
  split at h
  · rename_i c; exact nwn_put c.1 h
  · cases h
theorem nwn_nwx {H0 Hc H' : Hp} {D : Addr} {o o' : HO} (s : Same H0 Hc) (e : Hc D = some o) : Kp (nwn Hc H') (nwx H0 D (upd H' D o')) := fun b x _ h => by
  obtain ⟨h1, h2⟩ := nwn_some h
  have ne : b ≠ D := fun c => by subst c; rw [h1] at e; cases e
  exact nwx_put (none_of_same s h1) ne (by rw [upd_ne ne]; exact h2)
def spJo : Sp := fun vs H Q _ => ∃ x y : Int, vs = [.int x, .int y] ∧ Q (.int (jo x y)) H
def spJrows : Sp := fun vs H Q _ => ∃ (v v' : V) (rs os : List (List Int)), vs = [v, v'] ∧ RowsAt H v rs ∧ RowsAt H v' os ∧ rs.length ≤ 20 ∧ os.length ≤ 20 ∧ (∀ r ∈ rs, r.length ≤ 7) ∧ (∀ r ∈ os, r.length ≤ 7) ∧
  ∀ (p : Addr) (H' : Hp), Same H H' → RowsAt (nwn H H') (.ref p) (jrows rs os) → Q (.ref p) H'
def spJlet : Sp := fun vs H Q _ => ∃ (v v' : V) (l m : List (Int × Int)), vs = [v, v'] ∧ LetAt H v l ∧ LetAt H v' m ∧ l.length ≤ 14 ∧ m.length ≤ 14 ∧ l.Pairwise ltP ∧ m.Pairwise ltP ∧ (∀ p ∈ m, (0 ≤ p.1 ∧ 0 ≤ p.2) ∧ p.1 ≤ 7 ∧ p.2 ≤ 7) ∧
  ∀ (p : Addr) (ls : List (Int × Int)) (H' : Hp), Same H H' → LetAt H' (.ref p) ls → ls.Perm (jraw l m) → ls.Pairwise ltP → Q (.ref p) H'
section
variable {P : Program} {w : World} {K : PySem.W.Frag} {mg : Str → Option Value} {base : Heap}
abbrev nJo : List Str := ["x", "y"]
theorem sc_jo : FnScope nJo nJo (defScope s_joint_output) := ⟨rfl, rfl, rfl, by decide +kernel, rfl, by decide +kernel, by decide +kernel⟩
theorem ok_jo {f : Addr} {fd : FuncData} (F : Fun K "joint_output" "joint_output" s_joint_output f fd) (M7 : ∃ t, mg "MOST_JOINED" = some (.int 7 t)) : FnOk P w K mg base CX0 1 f fd nJo spJo := by
  refine F.ok sc_jo (fun vs H Q E h => ?_) (fun cdv A outer s H vs Q E hr h => ?_)
  · obtain ⟨x, y, rfl, _⟩ := h
    rfl
  obtain ⟨x, y, rfl, q⟩ := h
  obtain ⟨t7, m7⟩ := M7
  refine ⟨_, (pss_one (ps_ret (pe_op op_add (pe_op op_mul (pe_op op_add (pe_glob (v := .int 7) rfl m7 ⟨_, rfl⟩) pe_int) (pv 0)) (pv 1)))), ?_⟩
  refine ⟨_, _, rfl, rfl, _, rfl, _, _, rfl, rfl, .inl ⟨by decide, by decide⟩, _, rfl, _, _, rfl, rfl, ?_⟩
  have e : (7 + 1) * x + y = jo x y := by unfold jo; omega
  show Q (.int ((7 + 1) * x + y)) H
  rw [e]
  exact q
abbrev nJr : List Str := ["rows", "others", "x", "y", "outputs", "more"]
theorem sc_jr : FnScope nJr ["rows", "others"] (defScope s_joint_rows) := ⟨rfl, rfl, rfl, by decide +kernel, rfl, by decide +kernel, by decide +kernel⟩
theorem ok_jr {f g1 : Addr} {fd d1 : FuncData} (F : Fun K "joint_rows" "joint_rows" s_joint_rows f fd) (Jo : Def P w K mg base "joint_output" nJo 1 spJo g1 d1) : FnOk P w K mg base CX0 2 f fd ["rows", "others"] spJrows := by
  refine F.ok sc_jr (fun vs H Q E h => ?_) (fun cdv A outer s H vs Q E hr h => ?_)
  · obtain ⟨v, v', rs, os, rfl, _⟩ := h
    rfl
  obtain ⟨v, v', rs, os, rfl, hR, hO, lr, lo, lrr, loo, q⟩ := h
  have nd := sc_jr.nd
  refine ⟨_, (pss_one (ps_ret (pe_lc2 (own := [("outputs", 4), ("more", 5)]) (vs1 := [5]) (wi1 := iList K (tVar 1)) (tt1 := tYes) (te := tLc2 (iList K (tVar 4)) (gName 2) tYes (iList K (tVar 5)) (gName 3) tYes (tCall spJo [] E0 (tCons (tVar 2) (tCons (tVar 3) tNil))) [2, 3] [3]) rfl nd (pi_list (pv 0)) (blkOk_by (N := nJr) (sc := defScope s_joint_rows) (by decide +kernel)) (by decide)
      (fun _ _ _ _ _ => pg_name (i := 4) nd rfl (Or.inl rfl)) (fun _ _ _ _ _ => pts_nil) (fun _ _ _ _ _ => (by exact pi_list (pv 1))) (fun _ _ _ _ _ => (by exact pg_name (i := 5) nd rfl (Or.inr rfl))) (fun _ _ _ _ _ => pts_nil)
      (fun _ _ _ _ _ => (by exact (pe_lc2 (own := [("x", 2), ("y", 3)]) (vs1 := [3]) (wi1 := iList K (tVar 5)) (tt1 := tYes) (te := tCall spJo [] E0 (tCons (tVar 2) (tCons (tVar 3) tNil))) rfl nd (pi_list (pv 4)) (blkOk_by (N := nJr) (by kernel_rfl)) (by decide)
        (fun _ _ _ _ _ => (by exact pg_name (i := 2) nd rfl (Or.inl rfl))) (fun _ _ _ _ _ => pts_nil) (fun _ _ _ _ _ => (by exact pi_list (pv 5))) (fun _ _ _ _ _ => (by exact pg_name (i := 3) nd rfl (Or.inl rfl))) (fun _ _ _ _ _ => pts_nil)
        (fun _ _ _ _ _ => (by exact (pe_call Jo.G (hr.mono (by decide)) rfl Jo.m Jo.k Jo.b .nil pass0 (pa_cons (pv 2) (pa_cons (pv 3) pa_nil))))))))))), ?_⟩
  obtain ⟨rv, xs, rfl, hrv, ax⟩ := hR
  obtain ⟨ov, ys, rfl, hov, ay⟩ := hO
  refine ⟨_, rfl, rv, rfl, ⟨_, SqL.of hrv⟩, fun D1 hD1 => ?_⟩
  refine list_turns (xs := xs) (fun i H' => Same H H' ∧ ∃ zs, H' D1 = some (.lst zs) ∧ A2 (RowAt (nwx H D1 H')) zs ((rs.take i).flatMap fun r => os.map (jrow r)) ∧ zs.length ≤ 20 * i) ⟨same_new hD1 _, [], upd_same, .nil, Nat.zero_le _⟩ (fun i H' _ h => SqL.of (h.1 _ _ hrv)) ?_ ?_
  · rintro i x H' hx ⟨s1, zs, e1, az, lz⟩
    obtain ⟨r, hr1, t, rfl, ht⟩ := ax.get hx
    have lr1 := lrr r (List.mem_of_getElem? hr1)
    refine ⟨rfl, _, rfl, ov, rfl, ⟨_, SqL.of (s1 _ _ hov)⟩, ?_⟩
    refine list_turns (xs := ys) (fun j H2 => Same H H2 ∧ ∃ us, H2 D1 = some (.lst us) ∧ A2 (RowAt (nwx H D1 H2)) us (((rs.take i).flatMap fun r => os.map (jrow r)) ++ (os.take j).map (jrow r)) ∧ us.length ≤ 20 * i + j) ⟨s1, zs, e1, by simpa using az, lz⟩ (fun j H2 _ h => SqL.of (h.1 _ _ hov)) ?_ ?_
    · rintro j y H2 hy ⟨s2, us, e2, au, lu⟩
      obtain ⟨m, hm1, tm, rfl, htm⟩ := ay.get hy
      have lm1 := loo m (List.mem_of_getElem? hm1)
      refine ⟨rfl, _, rfl, t, rfl, ⟨_, SqL.of (s2 _ _ ht)⟩, fun D2 hD2 => ?_⟩
      have n12 : D1 ≠ D2 := ne_of_none e2 hD2
      refine list_turns (xs := r.map V.int) (fun k H3 => Same H2 H3 ∧ ∃ ns : List Int, H3 D2 = some (.lst (ns.map V.int)) ∧ ns = (r.take k).flatMap (fun x => m.map fun y => jo x y) ∧ ns.length ≤ 7 * k) ⟨same_new hD2 _, [], upd_same, rfl, Nat.zero_le _⟩ (fun k H3 _ h => SqL.of (h.1 _ _ (s2 _ _ ht))) ?_ ?_
      · rintro k vx H3 hvx ⟨s3, ns, e3, en, ln⟩
        rw [List.getElem?_map] at hvx
        obtain ⟨x, hx', rfl⟩ := Option.map_eq_some_iff.mp hvx
        have hk : k < r.length := (List.getElem?_eq_some_iff.mp hx').1
        refine ⟨rfl, _, rfl, tm, rfl, ⟨_, SqL.of (s3 _ _ (s2 _ _ htm))⟩, ?_⟩
        refine list_turns (xs := m.map V.int) (fun l H4 => Same H2 H4 ∧ ∃ ms : List Int, H4 D2 = some (.lst (ms.map V.int)) ∧ ms = ns ++ (m.take l).map (fun y => jo x y) ∧ ms.length ≤ 7 * k + l) ⟨s3, ns, e3, by simp, ln⟩ (fun l H4 _ h => SqL.of (h.1 _ _ (s2 _ _ htm))) ?_ ?_
        · rintro l vy H4 hvy ⟨s4, ms, e4, em, lm⟩
          rw [List.getElem?_map] at hvy
          obtain ⟨y, hy', rfl⟩ := Option.map_eq_some_iff.mp hvy
          have hl : l < m.length := (List.getElem?_eq_some_iff.mp hy').1
          refine ⟨rfl, _, rfl, _, rfl, x, y, rfl, _, e4, ?_, same_upd s4 hD2, ms ++ [jo x y], by rw [upd_same, List.map_append]; rfl, by rw [em, take_get hy', List.map_append, List.append_assoc]; rfl, by rw [List.length_append]; show ms.length + 1 ≤ _; omega⟩
          rw [List.length_map]
          exact Nat.lt_of_lt_of_le (show ms.length < 1000 by omega) (by decide)
        · rintro H4 ⟨s4, ms, e4, em, lm⟩
          rw [List.length_map] at em lm
          rw [List.take_length] at em
          refine ⟨s4, ms, e4, ?_, by omega⟩
          rw [em, en, take_flat (fun x => m.map fun y => jo x y) hx']
      · rintro H3 ⟨s3, ns, e3, en, ln⟩
        rw [List.length_map, List.take_length] at en
        have e13 := s3 _ _ e2
        have hj : j < os.length := (List.getElem?_eq_some_iff.mp hm1).1
        refine ⟨us, e13, Nat.lt_of_lt_of_le (show us.length < 1000 by have : i < rs.length := (List.getElem?_eq_some_iff.mp hr1).1; omega) (by decide), same_upd (s2.trans s3) hD1, _, upd_same, ?_, by rw [List.length_append]; show us.length + 1 ≤ _; omega⟩
        rw [take_get hm1, List.map_append, ← List.append_assoc]
        refine A2.snoc (au.imp fun _ _ r => r.mono (kp_nwx_but ((But.same s3).trans But.at))) ⟨D2, rfl, nwx_put (none_of_same s2 hD2) n12.symm ?_⟩
        rw [upd_ne n12.symm, e3, en]
        rfl
    · rintro H2 ⟨s2, us, e2, au, lu⟩
      rw [ay.len, List.take_length] at au
      rw [ay.len] at lu
      refine ⟨s2, us, e2, ?_, by omega⟩
      rw [take_flat (fun r => os.map (jrow r)) hr1]
      exact au
  · rintro H1 ⟨s1, zs, e1, az, lz⟩
    rw [ax.len, List.take_length] at az
    exact q D1 H1 s1 ⟨D1, zs, rfl, nwn_put hD1 e1, az.imp fun _ _ r => r.mono nwx_nwn⟩
end
end TA

set_option Elab.async false
set_option maxRecDepth 100000
set_option maxHeartbeats 4000000
namespace TA
open PySem L2 PyProof.Rows
set_option linter.unusedVariables false
section
variable {P : Program} {w : World} {K : PySem.W.Frag} {mg : Str → Option Value} {base : Heap}
abbrev nJl : List Str := ["let", "more", "pairs", "x0", "x1", "y0", "y1"]
theorem sc_jl : FnScope nJl ["let", "more"] (defScope s_joint_let) := ⟨rfl, rfl, rfl, by decide +kernel, rfl, by decide +kernel, by decide +kernel⟩
theorem tp_new {H : Hp} {D : Addr} {o o' : HO} (hD : H D = some o) (ho : ∀ ys, o ≠ .tup ys) {v : V} {p : Int × Int} (h : TpAt H v p) : TpAt (upd H D o') v p := by
  obtain ⟨u, rfl, hu⟩ := h
  exact ⟨u, rfl, by rw [upd_ne (ne_of hu hD (fun z => ho _ z.symm))]; exact hu⟩
theorem ok_jl {f g1 : Addr} {fd d1 : FuncData} (F : Fun K "joint_let" "joint_let" s_joint_let f fd) (T2 : Txt2 K mg) (Jo : Def P w K mg base "joint_output" nJo 1 spJo g1 d1) : FnOk P w K mg base CX0 2 f fd ["let", "more"] spJlet := by
  refine F.ok sc_jl (fun vs H Q E h => ?_) (fun cdv A outer s H vs Q E hr h => ?_)
  · obtain ⟨v, v', l, m, rfl, _⟩ := h
    rfl
  obtain ⟨v, v', l, m, rfl, hL, hM, ll, lm, sl, sm, low, q⟩ := h
  have nd := sc_jl.nd
  refine ⟨_, (pss_cons (ps_setLc2 (i := 2) (own := [("x0", 3), ("x1", 4), ("y0", 5), ("y1", 6)]) (vs1 := [5, 6]) (wi1 := iList K (tVar 1)) (g := gTup K 2 (gCons (gName 3) (gCons (gName 4) gNil))) (g1 := gTup K 2 (gCons (gName 5) (gCons (gName 6) gNil))) (tt1 := tYes) (te := tTup (tCons (tCall spJo [] E0 (tCons (tVar 3) (tCons (tVar 5) tNil))) (tCons (tCall spJo [] E0 (tCons (tVar 4) (tCons (tVar 6) tNil))) tNil))) rfl nd rfl rfl (sw_true rfl rfl rfl (by decide +kernel)) (pi_list (pv 0)) (blkOk_by (N := nJl) (sc := defScope s_joint_let) (by decide +kernel)) (by decide)
      (fun _ _ _ _ _ => (by exact (pg_tup (by rfl) (pgs_cons (pg_name (i := 3) nd rfl (Or.inl rfl)) (pgs_cons (pg_name (i := 4) nd rfl (Or.inl rfl)) pgs_nil))))) (fun _ _ _ _ _ => pts_nil) (fun _ _ _ _ _ => (by exact pi_list (pv 1))) (fun _ _ _ _ _ => (by exact (pg_tup (by rfl) (pgs_cons (pg_name (i := 5) nd rfl (Or.inl rfl)) (pgs_cons (pg_name (i := 6) nd rfl (Or.inl rfl)) pgs_nil))))) (fun _ _ _ _ _ => pts_nil)
      (fun _ _ _ _ _ => (by exact (pe_tup (pa_cons (pe_call Jo.G (hr.mono (by decide)) rfl Jo.m Jo.k Jo.b .nil pass0 (pa_cons (pv 3) (pa_cons (pv 5) pa_nil))) (pa_cons (pe_call Jo.G (hr.mono (by decide)) rfl Jo.m Jo.k Jo.b .nil pass0 (pa_cons (pv 4) (pa_cons (pv 6) pa_nil))) pa_nil))))))
    (pss_one (ps_ret (pe_callB cr_sortedPO (by rfl) T2.sorted (by decide +kernel) (pa_cons (pv 2) pa_nil))))), ?_⟩
  obtain ⟨lv, xs, rfl, hlv, ax⟩ := hL
  obtain ⟨mv, ys, rfl, hmv, ay⟩ := hM
  refine ⟨_, rfl, lv, rfl, ⟨_, SqL.of hlv⟩, fun D hD => ?_⟩
  refine list_turns (xs := xs) (fun i H' => Same H H' ∧ ∃ zs, H' D = some (.lst zs) ∧ A2 (TpAt H') zs ((l.take i).flatMap fun p => m.map (joP p)) ∧ zs.length ≤ 14 * i) ⟨same_new hD _, [], upd_same, .nil, Nat.zero_le _⟩ (fun i H' _ h => SqL.of (h.1 _ _ hlv)) ?_ ?_
  · rintro i x H' hx ⟨s1, zs, e1, az, lz⟩
    obtain ⟨p, hp, t, rfl, ht⟩ := ax.get hx
    have hi : i < l.length := (List.getElem?_eq_some_iff.mp hp).1
    refine ⟨t, _, rfl, SqT.of (s1 _ _ ht), rfl, _, _, rfl, _, _, rfl, rfl, rfl, _, rfl, mv, rfl, ⟨_, SqL.of (s1 _ _ hmv)⟩, ?_⟩
    refine list_turns (xs := ys) (fun j H2 => Same H H2 ∧ ∃ us, H2 D = some (.lst us) ∧ A2 (TpAt H2) us (((l.take i).flatMap fun p => m.map (joP p)) ++ (m.take j).map (joP p)) ∧ us.length ≤ 14 * i + j) ⟨s1, zs, e1, by simpa using az, lz⟩ (fun j H2 _ h => SqL.of (h.1 _ _ hmv)) ?_ ?_
    · rintro j y H2 hy ⟨s2, us, e2, au, lu⟩
      obtain ⟨r, hr1, tr, rfl, htr⟩ := ay.get hy
      have hj : j < m.length := (List.getElem?_eq_some_iff.mp hr1).1
      refine ⟨tr, _, rfl, SqT.of (s2 _ _ htr), rfl, _, _, rfl, _, _, rfl, rfl, rfl, _, rfl, _, rfl, p.1, r.1, rfl, _, rfl, _, rfl, p.2, r.2, rfl, (by show 2 ≤ sizeLine; decide), fun tn htn => ?_⟩
      have s3 := same_new htn (.tup [V.int (jo p.1 r.1), V.int (jo p.2 r.2)])
      have ntD : tn ≠ D := (ne_of_none e2 htn).symm
      refine ⟨us, s3 _ _ e2, Nat.lt_of_lt_of_le (show us.length < 1000 by omega) (by decide), same_upd (s2.trans s3) hD, _, upd_same, ?_, by rw [List.length_append]; show us.length + 1 ≤ _; omega⟩
      rw [take_get hr1, List.map_append, ← List.append_assoc]
      exact A2.snoc (au.imp fun _ _ h => tp_new (s3 _ _ e2) (fun _ z => by cases z) (h.mono (.same s3))) ⟨tn, rfl, by rw [upd_ne ntD]; exact upd_same⟩
    · rintro H2 ⟨s2, us, e2, au, lu⟩
      rw [ay.len, List.take_length] at au
      rw [ay.len] at lu
      refine ⟨s2, us, e2, ?_, by omega⟩
      rw [take_flat (fun p => m.map (joP p)) hp]
      exact au
  · rintro H1 ⟨s1, zs, e1, az, lz⟩
    rw [ax.len, List.take_length] at az
    have az : A2 (TpAt H1) zs (jraw l m) := az
    refine ⟨_, rfl, D, zs, dec H1, rfl, SqL.of e1, fun x hx => ?_, fun vs a hsr hst ha => ?_⟩
    · obtain ⟨o, _, t, rfl, ht⟩ := az.mem hx
      exact ⟨t, rfl, by rw [dec_eq ⟨t, rfl, ht⟩]; exact ht⟩
    obtain ⟨av, pm⟩ := tp_perm az hst.perm
    have sa := same_new ha (.lst vs)
    refine q a _ _ (s1.trans sa) ⟨a, vs, rfl, upd_same, av.imp fun _ _ h => h.mono (.same sa)⟩ pm ?_
    have nd2 := pm.nodup_iff.mpr (jraw_nodup sl sm low)
    refine List.pairwise_map.mpr ((List.Pairwise.imp₂ (fun a b h1 h2 => And.intro h1 h2) hsr (List.pairwise_map.mp nd2)).imp fun {x y} h => ?_)
    obtain ⟨h1, h2⟩ := h
    have h1 := SrtO.lexB_no.mp h1
    show (dec H1 x).1 < (dec H1 y).1 ∨ ((dec H1 x).1 = (dec H1 y).1 ∧ (dec H1 x).2 < (dec H1 y).2)
    have ne : ¬ ((dec H1 x).1 = (dec H1 y).1 ∧ (dec H1 x).2 = (dec H1 y).2) := fun ⟨a, b⟩ => h2 (Prod.ext a b)
    omega
end
end TA

set_option Elab.async false
set_option maxRecDepth 100000
set_option maxHeartbeats 800000
namespace TA
open PySem L2 PyProof.Rows
set_option linter.unusedVariables false
/-- all but d and d' stay -/
def But2 (d d' : Addr) (H H' : Hp) : Prop := ∀ b o, b ≠ d → b ≠ d' → H b = some o → H' b = some o
theorem But2.same {d d' : Addr} {H H' H2 : Hp} (h : But2 d d' H H') (s : Same H' H2) : But2 d d' H H2 := fun b o n n' e => s _ _ (h b o n n' e)
theorem But2.new {d d' p : Addr} {H H' : Hp} {o : HO} (h : But2 d d' H H') (f : H p = none) : But2 d d' H (upd H' p o) := fun b u n n' e => by
  rw [upd_ne (ne_of_none e f)]
  exact h b u n n' e
theorem But2.kp {d d' : Addr} {H H' : Hp} {u u' : HO} (e : H d = some u) (e' : H d' = some u') (n : ¬ flatO u) (n' : ¬ flatO u') (s : But2 d d' H H') : Kp H H' := fun b x f h =>
  s b x (fun c => by subst c; rw [e] at h; cases h; exact n f) (fun c => by subst c; rw [e'] at h; cases h; exact n' f) h
theorem But2.unlock {d d' : Addr} {H H' : Hp} {u u' : HO} (nd : d ≠ d') (e : H d = some u) (e' : H d' = some u') (s : But2 d d' H H') : Same H (upd (upd H' d' u') d u) := fun b x h => by
  by_cases c : b = d
  · subst c
    rw [e] at h
    cases h
    exact upd_same
  · rw [upd_ne c]
    by_cases c' : b = d'
    · subst c'
      rw [e'] at h
      cases h
      exact upd_same
    · rw [upd_ne c']
      exact s b x c c' h
theorem But2.free {d d' D : Addr} {H H' : Hp} {u u' : HO} (h : But2 d d' H H') (hd : H' d = some u) (hd' : H' d' = some u') (f : H' D = none) : H D = none := by
  have n1 : D ≠ d := fun c => by subst c; rw [f] at hd; cases hd
  have n2 : D ≠ d' := fun c => by subst c; rw [f] at hd'; cases hd'
  cases e : H D with
  | none => rfl
  | some o => rw [h D o n1 n2 e] at f; cases f
def jmids (T S : TD) : List (EB × EB) := jpairs T.bo S.bo
def DiffB (C : Addr) (H : Hp) (p q : Addr) : Prop := ∀ dx a d dx' a' d', H p = some (.ins C dx (flds a d)) → H q = some (.ins C dx' (flds a' d')) → d ≠ d'
def spJoint (C : Addr) : Sp := fun vs H Q _ => ∃ (p q : Addr) (T S : TD), vs = [.ref p, .ref q] ∧ TaskAt C H p T ∧ TaskAt C H q S ∧ WF T ∧ WF S ∧ Low T ∧ Low S ∧ (∀ h, h < 2 → (T.al h).length * (S.al h).length ≤ 20) ∧ T.bo.length * S.bo.length ≤ 60 ∧ DiffB C H p q ∧
  ∀ (r : Addr) (U : TD) (H' : Hp), NewT C H H' r U → JnT T S U → WF U → Q (.ref r) H'
theorem low_outs {T : TD} (L : Low T) : ∀ x ∈ outsA T ++ outsQ T.bo, x ≤ 7 := fun x hx => by
  rcases List.mem_append.mp hx with h | h
  · rcases List.mem_append.mp h with h | h
    · obtain ⟨r, hr, hx⟩ := List.mem_flatten.mp h
      exact (L.row 0 (by decide) r hr).2 x hx
    · obtain ⟨r, hr, hx⟩ := List.mem_flatten.mp h
      exact (L.row 1 (by decide) r hr).2 x hx
  · obtain ⟨e, he, hx⟩ := List.mem_flatMap.mp h
    obtain ⟨o, ho, hx⟩ := List.mem_flatMap.mp hx
    have := (L.lets e he).2 o ho
    rcases List.mem_cons.mp hx with rfl | hx
    · exact this.1
    · obtain rfl := List.mem_singleton.mp hx
      exact this.2
theorem jkey_lt {w0 w1 : Nat} {e e' f f' : IP} (hf : f.1 < w0 ∧ f.2 < w1) (hf' : f'.1 < w0 ∧ f'.2 < w1) (h : jkey w0 w1 e f = jkey w0 w1 e' f') : e = e' ∧ f = f' := by
  have c1 : e.1 * w0 + f.1 = e'.1 * w0 + f'.1 := congrArg Prod.fst h
  have c2 : e.2 * w1 + f.2 = e'.2 * w1 + f'.2 := congrArg Prod.snd h
  obtain ⟨a, b⟩ := mul_add_one c1 hf.1 hf'.1
  obtain ⟨c, d⟩ := mul_add_one c2 hf.2 hf'.2
  exact ⟨Prod.ext a c, Prod.ext b d⟩
theorem srt_key {bo : BD} (h : (bo.map (·.1)).Pairwise (· ≠ ·)) {i j : Nat} {e f : EB} (hi : bo[i]? = some e) (hj : bo[j]? = some f) (hk : e.1 = f.1) : i = j := by
  have hI := (List.getElem?_eq_some_iff.mp hi)
  have hJ := (List.getElem?_eq_some_iff.mp hj)
  have hp := List.pairwise_iff_getElem.mp h
  by_cases c : i < j
  · have := hp i j (by rw [List.length_map]; exact hI.1) (by rw [List.length_map]; exact hJ.1) c
    rw [List.getElem_map, List.getElem_map, hI.2, hJ.2] at this
    exact absurd hk this
  · by_cases c' : j < i
    · have := hp j i (by rw [List.length_map]; exact hJ.1) (by rw [List.length_map]; exact hI.1) c'
      rw [List.getElem_map, List.getElem_map, hI.2, hJ.2] at this
      exact absurd hk.symm this
    · omega
theorem mem_take {α : Type} {l : List α} {i : Nat} {x : α} (h : x ∈ l.take i) : ∃ k, k < i ∧ l[k]? = some x := by
  obtain ⟨k, hk⟩ := List.getElem?_of_mem h
  have hl := (List.getElem?_eq_some_iff.mp hk).1
  rw [List.length_take] at hl
  refine ⟨k, by omega, ?_⟩
  rwa [List.getElem?_take_of_lt (by omega)] at hk
theorem mul_ok {n : Nat} {j : Int} (h : n < 1000) : CMul (n : Int) j := by
  have h1 : (-(2 ^ 64) : Int) < 0 := by decide
  have h2 : (1000 : Int) < 2 ^ 64 := by decide
  exact .inl ⟨Int.lt_of_lt_of_le h1 (by omega), Int.lt_trans (by omega) h2⟩
theorem yes_st {add : Addr → L2.St → Hp → (Hp → Prop) → Prop} {D : Addr} {σ σ' : L2.St} {H : Hp} {Nx : Hp → Prop} (e : σ = σ') (h : add D σ' H Nx) : tYes σ H fun b H6 => if b = true then add D σ H6 Nx else Nx H6 := by
  subst e
  show (if true = true then add D σ H Nx else Nx H)
  rw [if_pos rfl]
  exact h
theorem same_of_but {H H1 H2 : Hp} {x : Addr} (s : Same H H1) (n : H x = none) (b : But x H1 H2) : Same H H2 := fun c u e => b c u (ne_of_none e n) (s _ _ e)
def JInv (H5 : Hp) (d d' L : Addr) (o o' : HO) (w0 w1 : Nat) (zs : List (EB × EB)) (H' : Hp) : Prop := But2 d d' H5 H' ∧ H' d = some o ∧ H' d' = some o' ∧ ∃ (ks : List (List Key × V)) (gs : BD), H' L = some (.dT ks) ∧ A2 (EnAt H') ks gs ∧ A2 (JnE w0 w1) zs gs
theorem JInv.same {H5 H' H2 : Hp} {d d' L : Addr} {o o' : HO} {w0 w1 : Nat} {zs : List (EB × EB)} (s : Same H' H2) (h : JInv H5 d d' L o o' w0 w1 zs H') : JInv H5 d d' L o o' w0 w1 zs H2 := by
  obtain ⟨b, e1, e2, ks, gs, e3, a, j⟩ := h
  exact ⟨b.same s, s _ _ e1, s _ _ e2, ks, gs, s _ _ e3, a.imp fun _ _ r => EnAt.mono (.same s) r, j⟩
theorem kI_map (p : IP) : (kI p).map kV = [V.int (p.1 : Int), V.int (p.2 : Int)] := rfl
def zsAt (a b : BD) (i : Nat) : List (EB × EB) := (a.take i).flatMap fun e => b.map fun f => (e, f)
theorem zs_none {T S : TD} (W : WF T) (V : WF S) {i j : Nat} {e f : EB} (hi : T.bo[i]? = some e) (hj : S.bo[j]? = some f) {z : EB × EB} (hz : z ∈ zsAt T.bo S.bo i ++ (S.bo.take j).map fun f => (e, f)) : jkey (S.al 0).length (S.al 1).length z.1.1 z.2.1 ≠ jkey (S.al 0).length (S.al 1).length e.1 f.1 := fun c => by
  have hf := V.rng f (List.mem_of_getElem? hj)
  rcases List.mem_append.mp hz with hz | hz
  · obtain ⟨x, hx, y, hy, rfl⟩ := mem_flat.mp hz
    obtain ⟨k, hk, hk'⟩ := mem_take hx
    obtain ⟨c1, c2⟩ := jkey_lt (V.rng y hy) hf c
    have := srt_key W.srt hk' hi c1
    omega
  · obtain ⟨y, hy, rfl⟩ := List.mem_map.mp hz
    obtain ⟨k, hk, hk'⟩ := mem_take hy
    obtain ⟨c1, c2⟩ := jkey_lt (V.rng y (List.mem_of_getElem? hk')) hf c
    have := srt_key V.srt hk' hj c2
    omega
section
variable {P : Program} {w : World} {K : PySem.W.Frag} {mg : Str → Option Value} {base : Heap}
abbrev nJn : List Str := ["task", "other", "alone", "width0", "width1", "both", "hand", "a0", "a1", "let", "b0", "b1", "more"]
theorem sc_jn : FnScope nJn ["task", "other"] (defScope s_joint) := ⟨rfl, rfl, rfl, by decide +kernel, rfl, by decide +kernel, by decide +kernel⟩
theorem ok_jn {f g1 g2 g3 g4 g5 C : Addr} {fd d1 d2 d3 d4 d5 : FuncData} (F : Fun K "joint" "joint" s_joint f fd) (T0 : TxtH K mg) (T2 : Txt2 K mg) (Z : TxtC K mg C) (M7 : ∃ t, mg "MOST_JOINED" = some (.int 7 t)) (Gr : Def P w K mg base "greatest_output" ["task"] 1 (spGreat C) g1 d1)
    (Jr : Def P w K mg base "joint_rows" ["rows", "others"] 2 spJrows g2 d2) (Jl : Def P w K mg base "joint_let" ["let", "more"] 2 spJlet g3 d3) (Inp : MDef P w K mg base C "inputs" nInputs 4 (spInputs K C) g4 d4) (Tk : KDef P w K mg base C "Task" ["self", "alone", "both"] 7 (spInit K C) g5 d5) : FnOk P w K mg base CX0 9 f fd ["task", "other"] (spJoint C) := by
  refine F.ok sc_jn (fun vs H Q E h => ?_) (fun cdv A outer s H vs Q E hr h => ?_)
  · obtain ⟨p, q', T, S, rfl, _⟩ := h
    rfl
  obtain ⟨p, q', T, S, rfl, hT, hS, hW, hV, hL, hM, hn, hb, hdf, q⟩ := h
  obtain ⟨t7, m7⟩ := M7
  obtain ⟨hA, mH, hH⟩ := T0.hands
  have nd := sc_jn.nd
  have hu := hu_of hr
  refine ⟨_, (pss_cons (ps_if (pt_cmpR op_gt (pe_callB (call_max2 rfl) (by rfl) T2.max (by decide +kernel) (pa_cons (pe_call Gr.G (hr.mono (by decide)) rfl Gr.m Gr.k Gr.b .nil pass0 (pa_cons (pv 0) pa_nil)) (pa_cons (pe_call Gr.G (hr.mono (by decide)) rfl Gr.m Gr.k Gr.b .nil pass0 (pa_cons (pv 1) pa_nil)) pa_nil))) (pe_glob (v := .int 7) rfl m7 ⟨_, rfl⟩) (nomark _)) pss_never pss_nil)
    (pss_cons (ps_setLc (i := 2) (own := [("hand", 6)]) (g := (gName 6)) (tt := tYes) (te := tCall spJrows [] E0 (tCons (tOp (rIxL K) (tFld K (tVar 0) "alone") (tVar 6)) (tCons (tOp (rIxL K) (tFld K (tVar 1) "alone") (tVar 6)) tNil))) rfl nd rfl rfl (sw_true rfl rfl rfl (by decide +kernel)) (pi_tup (pe_glob (v := .ref hA) rfl mH rfl)) (blkOk_by (N := nJn) (sc := defScope s_joint) (by decide +kernel)) (fun _ _ _ _ _ => (by exact (pg_name (i := 6) nd rfl (Or.inl rfl)))) (fun _ _ _ _ _ => pts_nil) (fun _ _ _ _ _ => (by exact (pe_call Jr.G (hr.mono (by decide)) rfl Jr.m Jr.k Jr.b .nil pass0 (pa_cons (pe_ix ix_list (pe_fld (pv 0) rfl) (pv 6) (fun _ _ => rfl)) (pa_cons (pe_ix ix_list (pe_fld (pv 1) rfl) (pv 6) (fun _ _ => rfl)) pa_nil))))))
    (pss_cons (ps_asg (pe_tup (pa_cons (pe_meth (pv 1) Z.cl Inp.M Inp.G (hr.mono (by decide)) Inp.b .nil pass0 (pa_cons pe_int pa_nil)) (pa_cons (pe_meth (pv 1) Z.cl Inp.M Inp.G (hr.mono (by decide)) Inp.b .nil pass0 (pa_cons pe_int pa_nil)) pa_nil))) (pg_tup (by rfl) (pgs_cons (pg_name (i := 3) nd rfl (Or.inr rfl)) (pgs_cons (pg_name (i := 4) nd rfl (Or.inr rfl)) pgs_nil))))
    (pss_cons (ps_lock (ps_lock (ps_setDcT2 (i := 5) (own := [("a0", 7), ("a1", 8), ("let", 9), ("b0", 10), ("b1", 11), ("more", 12)]) (vs1 := [10, 11, 12]) (g := gTup K 2 (gCons (gTup K 2 (gCons (gName 7) (gCons (gName 8) gNil))) (gCons (gName 9) gNil))) (g1 := gTup K 2 (gCons (gTup K 2 (gCons (gName 10) (gCons (gName 11) gNil))) (gCons (gName 12) gNil))) (wi1 := iItemsT (tFld K (tVar 1) "both")) (tt1 := tYes)
      (tk := tTup (tCons (tOp (rI0 fun i j => .int (i + j)) (tOp (rI CMul fun i j => .int (i * j)) (tVar 7) (tVar 3)) (tVar 10)) (tCons (tOp (rI0 fun i j => .int (i + j)) (tOp (rI CMul fun i j => .int (i * j)) (tVar 8) (tVar 4)) (tVar 11)) tNil)))
      (tv := tCall spJlet [] E0 (tCons (tVar 9) (tCons (tVar 12) tNil))) hu rfl nd rfl rfl (sw_trueD rfl rfl rfl (by decide +kernel)) (by decide) (pi_itemsT (pe_fld (pv 0) rfl)) (blkOk_by (N := nJn) (sc := defScope s_joint) (by decide +kernel))
      (fun _ _ _ _ _ => (by exact (pg_tup (by rfl) (pgs_cons (pg_tup (by rfl) (pgs_cons (pg_name (i := 7) nd rfl (Or.inl rfl)) (pgs_cons (pg_name (i := 8) nd rfl (Or.inl rfl)) pgs_nil))) (pgs_cons (pg_name (i := 9) nd rfl (Or.inl rfl)) pgs_nil))))) (fun _ _ _ _ _ => pts_nil) (fun _ _ _ _ _ => (by exact (pi_itemsT (pe_fld (pv 1) rfl))))
      (fun _ _ _ _ _ => (by exact (pg_tup (by rfl) (pgs_cons (pg_tup (by rfl) (pgs_cons (pg_name (i := 10) nd rfl (Or.inl rfl)) (pgs_cons (pg_name (i := 11) nd rfl (Or.inl rfl)) pgs_nil))) (pgs_cons (pg_name (i := 12) nd rfl (Or.inl rfl)) pgs_nil))))) (fun _ _ _ _ _ => pts_nil)
      (fun _ _ _ _ _ => (by exact (pe_tup (pa_cons (pe_op op_add (pe_op op_mul (pv 7) (pv 3)) (pv 10)) (pa_cons (pe_op op_add (pe_op op_mul (pv 8) (pv 4)) (pv 11)) pa_nil))))) (fun _ _ _ _ _ => (by exact (pe_call Jl.G (hr.mono (by decide)) rfl Jl.m Jl.k Jl.b .nil pass0 (pa_cons (pv 9) (pa_cons (pv 12) pa_nil)))))))) 
    (pss_one (ps_ret (pe_make Tk.M Tk.G (hr.mono (by decide)) (by rfl) Tk.m Tk.b .nil pass0 (pa_cons (pv 2) (pa_cons (pv 5) pa_nil))))))))), ?_⟩
  refine ⟨_, rfl, p, T, rfl, hT, hW, fun g1 H1 s1 m1 b1 => ?_⟩
  refine ⟨_, rfl, q', S, rfl, hS.mono s1, hV, fun g2 H2 s2 m2 b2 => ?_⟩
  have s12 := s1.trans s2
  refine ⟨_, _, rfl, _, _, rfl, rfl, _, rfl, ?_⟩
  have l1 := low_outs hL g1 m1
  have l2 := low_outs hM g2 m2
  have e7 : ¬ ((7 : Int) < if g2 > g1 then g2 else g1) := by split <;> omega
  refine iteF' (decide_eq_false e7) ?_
  have hT2 := hT.mono s12
  have hS2 := hS.mono s12
  have hq : ∀ (r : Addr) (U : TD) (H' : Hp), NewT C H2 H' r U → JnT T S U → WF U → Q (.ref r) H' := fun r U H' ⟨a, Hx, b, c⟩ J W => q r U H' ⟨s12.trans a, Hx, s12.trans b, c⟩ J W
  have hdf2 : DiffB C H2 p q' := fun dx a d dx' a' d' e e' => by
    obtain ⟨x1, x2, x3, e1, _⟩ := hT
    obtain ⟨y1, y2, y3, e2, _⟩ := hS
    have z1 := s12 _ _ e1
    have z2 := s12 _ _ e2
    rw [e] at z1
    rw [e'] at z2
    cases z1
    cases z2
    exact hdf _ _ _ _ _ _ e1 e2
  clear hT hS hdf q b1 b2 s1 s2 s12 m1 m2 l1 l2 e7
  obtain ⟨dx, aa, d, hp, hAl, hB⟩ := hT2
  obtain ⟨dx', aa', d', hp', hAl', hB'⟩ := hS2
  have ndd := hdf2 _ _ _ _ _ _ hp hp'
  obtain ⟨ta, x0, x1, ea, hta, har⟩ := id hAl.row
  obtain rfl : aa = ta := by injection ea
  obtain ⟨tb, y0, y1, eb, htb, hbr⟩ := id hAl'.row
  obtain rfl : aa' = tb := by injection eb
  refine ⟨hA, rfl, ⟨_, hH _⟩, fun D hD => ?_⟩
  refine tup_turns (xs := [V.int 0, V.int 1]) (fun i H' => Same H2 H' ∧ ∃ zs, H' D = some (.lst zs) ∧ A2 (RowsAt (nwx H2 D H')) zs ([jrows (T.al 0) (S.al 0), jrows (T.al 1) (S.al 1)].take i)) ⟨same_new hD _, [], upd_same, .nil⟩ (fun i H' _ h => hH _) ?_ ?_
  · rintro i x H' hx ⟨s3, zs, e3, az⟩
    have hi2 : i < 2 := (List.getElem?_eq_some_iff.mp hx).1
    have hxi : x = V.int (i : Int) := by
      obtain rfl | rfl : i = 0 ∨ i = 1 := by omega
      · exact (Option.some.inj hx).symm
      · exact (Option.some.inj hx).symm
    subst hxi
    obtain ⟨u, hu1, hu2⟩ := har i hi2
    obtain ⟨u', hu1', hu2'⟩ := hbr i hi2
    refine ⟨rfl, _, rfl, p, C, dx, _, _, rfl, s3 _ _ hp, Z.cl, Z.nA, flds_alone _ _, _, rfl, aa, _, _, _, rfl, rfl, SqL.of (s3 _ _ hta), atI_nat hu1, _, rfl, q', C, dx', _, _, rfl, s3 _ _ hp', Z.cl, Z.nA, flds_alone _ _, _, rfl, aa', _, _, _, rfl, rfl, SqL.of (s3 _ _ htb), atI_nat hu1', ?_⟩
    refine ⟨u, u', T.al i, S.al i, rfl, hu2.mono (.same s3), hu2'.mono (.same s3), (hW.n0 i hi2).2, (hV.n0 i hi2).2, fun r hr => (hL.row i hi2 r hr).1, fun r hr => (hM.row i hi2 r hr).1, fun r H4 s4 hr4 => ?_⟩
    have e34 := s4 _ _ e3
    refine ⟨zs, e34, ?_, same_upd (s3.trans s4) hD, _, upd_same, ?_⟩
    · rw [az.len, List.length_take]
      exact Nat.lt_of_le_of_lt (show _ ≤ 2 by omega) (by decide)
    · have e2 : [jrows (T.al 0) (S.al 0), jrows (T.al 1) (S.al 1)][i]? = some (jrows (T.al i) (S.al i)) := by
        obtain rfl | rfl : i = 0 ∨ i = 1 := by omega
        · rfl
        · rfl
      rw [take_get e2]
      exact A2.snoc (az.imp fun _ _ r => r.mono (kp_nwx_but ((But.same s4).trans But.at))) (hr4.mono (nwn_nwx s3 e3))
  rintro H5 ⟨s3, zs, e3, az⟩
  have az : A2 (RowsAt H5) zs [jrows (T.al 0) (S.al 0), jrows (T.al 1) (S.al 1)] := A2.imp (fun _ _ r => r.mono kp_nwx) az
  have hS5 : TaskAt C H5 q' S := TaskAt.mono s3 ⟨dx', aa', d', hp', hAl', hB'⟩
  refine ⟨_, rfl, q', dx', _, rfl, s3 _ _ hp', flds_no _ _ (by decide) (by decide), q', 0, S, rfl, by decide, hS5.r, _, rfl, q', dx', _, rfl, s3 _ _ hp', flds_no _ _ (by decide) (by decide), q', 1, S, rfl, by decide, hS5.r, (by show 2 ≤ sizeLine; decide), fun wt hwt => ?_⟩
  have s6 := same_new hwt (.tup [V.int ((S.al 0).length : Int), V.int ((S.al 1).length : Int)])
  refine ⟨wt, _, rfl, SqT.of upd_same, rfl, _, _, rfl, _, _, rfl, rfl, ?_⟩
  have s36 := s3.trans s6
  have e36 := s6 _ _ e3
  have az6 := az.imp fun _ _ r => r.mono (.same s6)
  generalize upd H5 wt (.tup [V.int ((S.al 0).length : Int), V.int ((S.al 1).length : Int)]) = H6 at s36 e36 az6 ⊢
  clear az s6 e3 s3 hS5
  obtain ⟨kvs, hd, ha⟩ := hB.mono s36
  obtain ⟨kvs', hd', ha'⟩ := hB'.mono s36
  have hp6 := s36 _ _ hp
  have hp6' := s36 _ _ hp'
  refine ⟨d, _, hd, trivial, fun od => ⟨d', .dT kvs', (by rw [upd_ne ndd.symm]; exact hd'), trivial, fun od' => ?_⟩⟩
  have npd : p ≠ d := ne_of hp6 hd (fun z => by cases z)
  have npd' : p ≠ d' := ne_of hp6 hd' (fun z => by cases z)
  have nqd : q' ≠ d := ne_of hp6' hd (fun z => by cases z)
  have nqd' : q' ≠ d' := ne_of hp6' hd' (fun z => by cases z)
  have b0 : But2 d d' H6 (upd (upd H6 d (.frz od (.dT kvs))) d' (.frz od' (.dT kvs'))) := fun b o n n' e => by rw [upd_ne n', upd_ne n]; exact e
  have f0 : (upd (upd H6 d (.frz od (.dT kvs))) d' (.frz od' (.dT kvs'))) d = some (.frz od (.dT kvs)) := by rw [upd_ne ndd]; exact upd_same
  have f0' : (upd (upd H6 d (.frz od (.dT kvs))) d' (.frz od' (.dT kvs'))) d' = some (.frz od' (.dT kvs')) := upd_same
  generalize upd (upd H6 d (.frz od (.dT kvs))) d' (.frz od' (.dT kvs')) = H7 at b0 f0 f0' ⊢
  refine ⟨_, rfl, p, C, dx, _, _, rfl, b0 _ _ npd npd' hp6, Z.cl, Z.nB, flds_both _ _, d, od, kvs, rfl, f0, fun L hL1 => ?_⟩
  have nLd : L ≠ d := fun c => by subst c; rw [f0] at hL1; cases hL1
  have nLd' : L ≠ d' := fun c => by subst c; rw [f0'] at hL1; cases hL1
  have hLn : H6 L = none := b0.free f0 f0' hL1
  have lkv : kvs.length = T.bo.length := ha.len
  have lkv' : kvs'.length = S.bo.length := ha'.len
  have mT := hW.many
  have mS := hV.many
  let I := JInv H6 d d' L (.frz od (.dT kvs)) (.frz od' (.dT kvs')) (S.al 0).length (S.al 1).length
  refine itemT_turns (fun i H' => I (zsAt T.bo S.bo i) H') ⟨b0.new hLn, (by rw [upd_ne nLd.symm]; exact f0), (by rw [upd_ne nLd'.symm]; exact f0'), [], [], upd_same, .nil, .nil⟩ (fun i H' h => h.2.1) ?_ ?_
  · rintro i k x qa Tt H' hi hq hTn inv
    obtain ⟨eb, hbi, ek, hx⟩ := ha.get hi
    dsimp only at ek hx
    subst ek
    have hem := List.mem_of_getElem? hbi
    have s2 := same_new hTn (.tup [V.ref qa, x])
    have inv2 := inv.same s2
    have hqa := s2 _ _ hq
    have eT : (upd H' Tt (.tup [V.ref qa, x])) Tt = some (.tup [V.ref qa, x]) := upd_same
    generalize upd H' Tt (.tup [V.ref qa, x]) = H8 at inv2 hqa eT ⊢
    clear s2 inv hTn hq
    rw [kI_map] at hqa
    refine ⟨Tt, _, rfl, SqT.of eT, rfl, _, _, rfl, qa, _, rfl, SqT.of hqa, rfl, _, _, rfl, _, _, rfl, rfl, _, _, rfl, rfl, (by kernel_rfl), ?_⟩
    refine yes_st (σ' := [some (V.ref p), some (V.ref q'), some (V.ref D), some (V.int ((S.al 0).length : Int)), some (V.int ((S.al 1).length : Int)), none, none, some (V.int (eb.1.1 : Int)), some (V.int (eb.1.2 : Int)), some x, none, none, none]) (by kernel_rfl) ?_
    have hx6 : LetAt H8 x eb.2 := hx.mono (inv2.1.kp hd hd' nf_dT nf_dT)
    refine ⟨_, rfl, q', C, dx', _, _, rfl, inv2.1 _ _ nqd nqd' hp6', Z.cl, Z.nB, flds_both _ _, d', od', kvs', rfl, inv2.2.2.1, ?_⟩
    refine itemT_turns (fun j H' => Same H8 H8 ∧ I (zsAt T.bo S.bo i ++ (S.bo.take j).map fun f => (eb, f)) H' ∧ Kp H8 H') ⟨fun _ _ e => e, by simpa using inv2, Kp.refl _⟩ (fun j H' h => h.2.1.2.2.1) ?_ ?_
    · rintro j k y qb Tu H' hj hqb hTun ⟨_, inv, kp⟩
      obtain ⟨fb, hbj, ek, hy⟩ := ha'.get hj
      dsimp only at ek hy
      subst ek
      have hfm := List.mem_of_getElem? hbj
      have s2 := same_new hTun (.tup [V.ref qb, y])
      have inv3 := inv.same s2
      have hqb := s2 _ _ hqb
      have kp3 := kp.trans (.same s2)
      have eT3 : (upd H' Tu (.tup [V.ref qb, y])) Tu = some (.tup [V.ref qb, y]) := upd_same
      generalize upd H' Tu (.tup [V.ref qb, y]) = H9 at inv3 hqb eT3 kp3 ⊢
      clear s2 inv hTun kp
      rw [kI_map] at hqb
      refine ⟨Tu, _, rfl, SqT.of eT3, rfl, _, _, rfl, qb, _, rfl, SqT.of hqb, rfl, _, _, rfl, _, _, rfl, rfl, _, _, rfl, rfl, (by kernel_rfl), ?_⟩
      refine yes_st (σ' := [some (V.ref p), some (V.ref q'), some (V.ref D), some (V.int ((S.al 0).length : Int)), some (V.int ((S.al 1).length : Int)), none, none, some (V.int (eb.1.1 : Int)), some (V.int (eb.1.2 : Int)), some x, some (V.int (fb.1.1 : Int)), some (V.int (fb.1.2 : Int)), some y]) (by kernel_rfl) ?_
      have hy9 : LetAt H9 y fb.2 := hy.mono (inv3.1.kp hd hd' nf_dT nf_dT)
      have hx9 : LetAt H9 x eb.2 := hx6.mono kp3
      have rg := hW.rng eb hem
      have nn0 := (hW.n0 0 (by decide)).2
      have nn1 := (hW.n0 1 (by decide)).2
      refine ⟨_, rfl, ?_⟩
      refine ⟨_, rfl, ?_⟩
      refine ⟨_, _, rfl, rfl, mul_ok (by omega), ?_⟩
      refine ⟨_, rfl, ?_⟩
      refine ⟨_, _, rfl, rfl, ?_⟩
      refine ⟨_, rfl, _, rfl, _, _, rfl, rfl, mul_ok (by omega), _, rfl, _, _, rfl, rfl, (by show 2 ≤ sizeLine; decide), fun kt hkt => ?_⟩
      have k0 : (eb.1.1 : Int) * ((S.al 0).length : Int) + (fb.1.1 : Int) = (((jkey (S.al 0).length (S.al 1).length eb.1 fb.1).1 : Nat) : Int) := by
        show _ = ((eb.1.1 * (S.al 0).length + fb.1.1 : Nat) : Int)
        rw [Int.natCast_add, Int.natCast_mul]
      have k1 : (eb.1.2 : Int) * ((S.al 1).length : Int) + (fb.1.2 : Int) = (((jkey (S.al 0).length (S.al 1).length eb.1 fb.1).2 : Nat) : Int) := by
        show _ = ((eb.1.2 * (S.al 1).length + fb.1.2 : Nat) : Int)
        rw [Int.natCast_add, Int.natCast_mul]
      show tCall spJlet [] E0 (tCons (tVar 9) (tCons (tVar 12) tNil)) _ (upd H9 kt (.tup [V.int ((eb.1.1 : Int) * ((S.al 0).length : Int) + (fb.1.1 : Int)), V.int ((eb.1.2 : Int) * ((S.al 1).length : Int) + (fb.1.2 : Int))])) _
      rw [k0, k1]
      have s4 := same_new hkt (.tup [V.int ((jkey (S.al 0).length (S.al 1).length eb.1 fb.1).1 : Int), V.int ((jkey (S.al 0).length (S.al 1).length eb.1 fb.1).2 : Int)])
      have ekt : (upd H9 kt (.tup [V.int ((jkey (S.al 0).length (S.al 1).length eb.1 fb.1).1 : Int), V.int ((jkey (S.al 0).length (S.al 1).length eb.1 fb.1).2 : Int)])) kt = some (.tup [V.int ((jkey (S.al 0).length (S.al 1).length eb.1 fb.1).1 : Int), V.int ((jkey (S.al 0).length (S.al 1).length eb.1 fb.1).2 : Int)]) := upd_same
      generalize upd H9 kt (.tup [V.int ((jkey (S.al 0).length (S.al 1).length eb.1 fb.1).1 : Int), V.int ((jkey (S.al 0).length (S.al 1).length eb.1 fb.1).2 : Int)]) = H10 at s4 ekt ⊢
      refine ⟨_, rfl, _, rfl, x, y, eb.2, fb.2, rfl, hx9.mono (.same s4), hy9.mono (.same s4), (hL.lets eb hem).1, (hM.lets fb hfm).1, (hW.lets eb hem).2.2.1, (hV.lets fb hfm).2.2.1, low_let hV hM hfm, fun lp ls H11 s5 hls pm pw => ?_⟩
      have s45 := s4.trans s5
      obtain ⟨bb, i1, i2, ks, gs, i3, i4, i5⟩ := inv3.same s45
      have ekt := s5 _ _ ekt
      refine ⟨ks, kI (jkey (S.al 0).length (S.al 1).length eb.1 fb.1), kt, rfl, ekt, i3, ?_, ?_⟩
      · have l1 := i4.len
        have l2 := i5.len
        have l3 : (zsAt T.bo S.bo i).length ≤ T.bo.length * S.bo.length := by
          unfold zsAt
          rw [len_flat, List.length_take]
          exact Nat.mul_le_mul_right _ (Nat.min_le_right _ _)
        rw [List.length_append, List.length_map, List.length_take] at l2
        exact Nat.lt_of_lt_of_le (show ks.length < 1000 by omega) (by decide)
      have hvn : valV ks (kI (jkey (S.al 0).length (S.al 1).length eb.1 fb.1)) = none := valV_noneP fun e he c => by
        obtain ⟨g, hg1, hg2, _⟩ := i4.mem he
        rw [hg2] at c
        have c := kI_inj c
        obtain ⟨z, hz, r⟩ := i5.backJ hg1
        rw [r.key] at c
        exact zs_none hW hV hbi hbj hz c
      rw [putK_new _ hvn]
      have kpl : Kp H11 (upd H11 L (.dT (ks ++ [(kI (jkey (S.al 0).length (S.al 1).length eb.1 fb.1), V.ref lp)]))) := .put i3 nf_dT
      refine ⟨fun _ _ e => e, ⟨bb.new hLn, (by rw [upd_ne nLd.symm]; exact i1), (by rw [upd_ne nLd'.symm]; exact i2), _, gs ++ [(jkey (S.al 0).length (S.al 1).length eb.1 fb.1, ls)], upd_same, A2.snoc (i4.imp fun _ _ r => EnAt.mono kpl r) ⟨rfl, hls.mono kpl⟩, ?_⟩, (kp3.trans (.same s45)).trans kpl⟩
      rw [take_get hbj, List.map_append, ← List.append_assoc]
      exact A2.snoc i5 ⟨rfl, pm, pw⟩
    · rintro H9 ⟨_, inv, _⟩
      rw [lkv', List.take_length] at inv
      show I (zsAt T.bo S.bo (i + 1)) H9
      unfold zsAt
      rw [take_flat (fun e => S.bo.map fun f => (e, f)) hbi]
      exact inv
  · rintro H8 ⟨bb, i1, i2, ks, gs, i3, i4, i5⟩
    rw [lkv] at i5
    have i5 : A2 (JnE (S.al 0).length (S.al 1).length) (jpairs T.bo S.bo) gs := by
      unfold zsAt at i5
      rw [List.take_length] at i5
      exact i5
    refine ⟨i2, (by rw [upd_ne ndd]; exact i1), ?_⟩
    have s8 := bb.unlock ndd hd hd'
    have kp8 : Kp H8 (upd (upd H8 d' (.dT kvs')) d (.dT kvs)) := (Kp.put i2 nf_frz).trans (Kp.put (by rw [upd_ne ndd]; exact i1) nf_frz)
    have i3 : (upd (upd H8 d' (.dT kvs')) d (.dT kvs)) L = some (.dT ks) := by rw [upd_ne nLd, upd_ne nLd']; exact i3
    have i4 := i4.imp fun _ _ r => EnAt.mono kp8 r
    generalize upd (upd H8 d' (.dT kvs')) d (.dT kvs) = H9 at s8 i3 i4 ⊢
    clear kp8 bb i1 i2
    refine ⟨_, rfl, _, rfl, fun x dx2 hx hdx ne => ?_⟩
    have sx : Same H9 (upd (upd H9 dx2 (.own x)) x (.ins C dx2 [])) := (same_new hdx _).trans (same_new (by rw [upd_ne (Ne.symm ne)]; exact hx) _)
    have ex := upd_same (H := upd H9 dx2 (.own x)) (a := x) (o := .ins C dx2 [])
    generalize upd (upd H9 dx2 (.own x)) x (.ins C dx2 []) = H10 at sx ex ⊢
    have J : JnT T S ⟨fun h => jrows (T.al h) (S.al h), gs⟩ := ⟨fun _ _ => rfl, i5⟩
    have WU := J.wf hW hV hL hM hn hb
    have s89 := s8.trans sx
    have az10 := az6.imp fun _ _ r => r.mono (.same s89)
    have hA10 : AlAt H10 (.ref D) (fun h => jrows (T.al h) (S.al h)) := al_of (s89 _ _ e36) az10
    have sH9 := s36.trans s8
    refine ⟨x, dx2, D, L, ⟨fun h => jrows (T.al h) (S.al h), gs⟩, rfl, ex, hA10, ⟨ks, sx _ _ i3, i4.imp fun _ _ r => EnAt.mono (.same sx) r⟩, WU, fun H11 b11 n11 => ⟨rfl, ?_⟩⟩
    exact hq x _ H11 ⟨same_of_but (sH9.trans sx) (none_of_same sH9 hx) b11, H10, sH9.trans sx, n11⟩ J WU
end
end TA

set_option Elab.async false
set_option maxRecDepth 100000
set_option maxHeartbeats 4000000
namespace TA
open PySem L2 PyProof.Rows
set_option linter.unusedVariables false
/-! a task with its hands exchanged -/
def swp (p : Int × Int) : Int × Int := (p.2, p.1)
def swI (p : IP) : IP := (p.2, p.1)
theorem swI_inj {p q : IP} (h : swI p = swI q) : p = q := by
  unfold swI at h
  injection h with a b
  exact Prod.ext b a
def SwE (e f : EB) : Prop := f.1 = swI e.1 ∧ f.2.Perm (e.2.map swp) ∧ f.2.Pairwise ltP
structure SwT (T U : TD) : Prop where
  al : ∀ h, h < 2 → U.al h = T.al (1 - h)
  bo : A2 SwE T.bo U.bo
theorem SwE.mem {e f : EB} (h : SwE e f) (o : Int × Int) : o ∈ f.2 ↔ swp o ∈ e.2 := by
  rw [h.2.1.mem_iff, List.mem_map]
  constructor
  · rintro ⟨x, hx, rfl⟩
    exact hx
  · exact fun hx => ⟨_, hx, rfl⟩
theorem sw_keys : ∀ {xs ys : BD}, A2 SwE xs ys → ys.map (·.1) = (xs.map (·.1)).map swI
  | _, _, .nil => rfl
  | _, _, .cons a b => by rw [List.map_cons, List.map_cons, List.map_cons, a.1, sw_keys b]
theorem A2.back {α β : Type} {R : α → β → Prop} {xs : List α} {ys : List β} {y : β} (h : A2 R xs ys) (m : y ∈ ys) : ∃ x, x ∈ xs ∧ R x y := by
  obtain ⟨i, hi⟩ := List.getElem?_of_mem m
  obtain ⟨x, hx, r⟩ := h.at hi
  exact ⟨x, List.mem_of_getElem? hx, r⟩
theorem SwT.wf {T U : TD} (S : SwT T U) (W : WF T) : WF U where
  n0 := fun h hh => by rw [S.al h hh]; exact W.n0 (1 - h) (by omega)
  row := fun h hh r hr => by rw [S.al h hh] at hr; exact W.row (1 - h) (by omega) r hr
  srt := by
    rw [sw_keys S.bo, List.pairwise_map]
    exact List.Pairwise.imp (fun h c => h (swI_inj c)) W.srt
  rng := fun f hf => by
    obtain ⟨e, he, r⟩ := S.bo.back hf
    have := W.rng e he
    rw [r.1, S.al 0 (by decide), S.al 1 (by decide)]
    exact ⟨this.2, this.1⟩
  lets := fun f hf => by
    obtain ⟨e, he, r⟩ := S.bo.back hf
    have := W.lets e he
    have hl := r.2.1.length_eq
    rw [List.length_map] at hl
    refine ⟨by rw [hl]; exact this.1, by rw [hl]; exact this.2.1, r.2.2, fun o ho => ?_⟩
    have := this.2.2.2 _ ((r.mem o).mp ho)
    exact ⟨this.2, this.1⟩
  com0 := fun x hx => by
    rw [S.al 0 (by decide)] at hx
    obtain ⟨e, he, k⟩ := W.com1 x hx
    obtain ⟨f, hf, r⟩ := S.bo.mem he
    exact ⟨f, hf, by rw [r.1]; exact k⟩
  com1 := fun x hx => by
    rw [S.al 1 (by decide)] at hx
    obtain ⟨e, he, k⟩ := W.com0 x hx
    obtain ⟨f, hf, r⟩ := S.bo.mem he
    exact ⟨f, hf, by rw [r.1]; exact k⟩
  many := by rw [← S.bo.len]; exact W.many
theorem key_one {bo : BD} (h : (bo.map (·.1)).Pairwise (· ≠ ·)) : ∀ {e f : EB}, e ∈ bo → f ∈ bo → e.1 = f.1 → e = f := by
  induction bo with
  | nil => intro e f he; cases he
  | cons b r ih =>
    intro e f he hf k
    rw [List.map_cons, List.pairwise_cons] at h
    rcases List.mem_cons.mp he with e1 | he'
    · rcases List.mem_cons.mp hf with e2 | hf'
      · rw [e1, e2]
      · exact (h.1 _ (List.mem_map.mpr ⟨f, hf', rfl⟩) (by rw [← e1]; exact k)).elim
    · rcases List.mem_cons.mp hf with e2 | hf'
      · exact (h.1 _ (List.mem_map.mpr ⟨e, he', rfl⟩) (by rw [← e2]; exact k.symm)).elim
      · exact ih h.2 he' hf' k
theorem code2 (x y : Int) : TS.code 64 [x, y] = x * 64 + y := by
  show x * 64 ^ 1 + (y * 64 ^ 0 + 0) = _
  omega
/-- what sorted tells of pairs, each once -/
theorem sortT_ls {K : PySem.W.Frag} {H : Hp} {xs ys : List V} {ms : List (Int × Int)} (a : A2 (TpAt H) xs ms) (nd : ms.Nodup) (ok : ∀ p ∈ ms, okOut p.1 ∧ okOut p.2) (pm : ys.Perm xs) (pw : ys.Pairwise (fun x y => ∀ n m, TupI K H x n → TupI K H y m → TS.code 64 n ≤ TS.code 64 m)) :
    ∃ ls : List (Int × Int), A2 (TpAt H) ys ls ∧ ls.Perm ms ∧ ls.Pairwise ltP := by
  obtain ⟨a1, a2⟩ := tp_perm a pm
  refine ⟨_, a1, a2, ?_⟩
  have nd' := a2.nodup_iff.mpr nd
  rw [List.pairwise_map]
  have nd2 := List.pairwise_map.mp nd'
  refine List.Pairwise.imp_of_mem (fun {x y} hx hy h => ?_) (List.Pairwise.imp₂ (fun a b h1 h2 => And.intro h1 h2) pw nd2)
  obtain ⟨h1, h2⟩ := h
  obtain ⟨px, hpx, tx⟩ := a.mem (pm.mem_iff.mp hx)
  obtain ⟨py, hpy, ty⟩ := a.mem (pm.mem_iff.mp hy)
  rw [dec_eq tx, dec_eq ty] at h2 ⊢
  obtain ⟨ox1, ox2⟩ := ok px hpx
  obtain ⟨oy1, oy2⟩ := ok py hpy
  obtain ⟨t1, rfl, e1⟩ := tx
  obtain ⟨t2, rfl, e2⟩ := ty
  have hc := h1 [px.1, px.2] [py.1, py.2] ⟨t1, rfl, SqT.of e1⟩ ⟨t2, rfl, SqT.of e2⟩
  rw [code2, code2] at hc
  have ne : ¬ (px.1 = py.1 ∧ px.2 = py.2) := fun ⟨a, b⟩ => h2 (Prod.ext a b)
  have := ox1.1; have := ox1.2; have := ox2.1; have := ox2.2; have := oy1.1; have := oy1.2; have := oy2.1; have := oy2.2
  show px.1 < py.1 ∨ (px.1 = py.1 ∧ px.2 < py.2)
  omega
theorem ltP_ne {p q : Int × Int} (h : ltP p q) : p ≠ q := fun c => by
  subst c
  rcases h with h | ⟨_, h⟩ <;> omega
theorem let_nodup {l : List (Int × Int)} (h : l.Pairwise ltP) : l.Nodup := List.Pairwise.imp ltP_ne h
theorem swp_nodup {l : List (Int × Int)} (h : l.Nodup) : (l.map swp).Nodup := by
  unfold List.Nodup
  rw [List.pairwise_map]
  refine List.Pairwise.imp (fun h c => h ?_) h
  unfold swp at c
  injection c with a b
  exact Prod.ext b a
theorem take_mapf {α β : Type} (f : α → β) {l : List α} {i : Nat} {x : α} (h : l[i]? = some x) : (l.take (i + 1)).map f = (l.take i).map f ++ [f x] := by
  rw [take_get h, List.map_append]
  rfl
def spSwap (K : PySem.W.Frag) (C : Addr) : Sp := fun vs H Q _ => ∃ (p : Addr) (T : TD), vs = [.ref p] ∧ TaskAt C H p T ∧ WF T ∧ (∀ e ∈ T.bo, e.2.length ≤ 60) ∧ ∀ (q : Addr) (U : TD) (H' : Hp), NewT C H H' q U → SwT T U → WF U → Q (.ref q) H'
section
variable {P : Program} {w : World} {K : PySem.W.Frag} {mg : Str → Option Value} {base : Heap}
abbrev nSwp : List Str := ["task", "alone", "both", "y", "x", "b", "a", "let"]
theorem sc_swp : FnScope nSwp ["task"] (defScope s_swapped) := ⟨rfl, rfl, rfl, by decide +kernel, rfl, by decide +kernel, by decide +kernel⟩
theorem ok_swp {f g1 C : Addr} {fd d1 : FuncData} (F : Fun K "swapped" "swapped" s_swapped f fd) (T2 : Txt2 K mg) (Z : TxtC K mg C) (Tk : KDef P w K mg base C "Task" ["self", "alone", "both"] 7 (spInit K C) g1 d1) : FnOk P w K mg base CX0 9 f fd ["task"] (spSwap K C) := by
  refine F.ok sc_swp (fun vs H Q E h => ?_) (fun cdv A outer s H vs Q E hr h => ?_)
  · obtain ⟨p, D, rfl, _⟩ := h
    rfl
  obtain ⟨p, D, rfl, hT, hW, hl60, q⟩ := h
  have nd := sc_swp.nd
  have hu := hu_of hr
  refine ⟨_, (pss_cons (ps_set (i := 1) nd rfl (Or.inl rfl) (pe_lst (pa_cons (pe_ix ix_list (pe_fld (pv 0) rfl) pe_int (fun _ _ => rfl)) (pa_cons (pe_ix ix_list (pe_fld (pv 0) rfl) pe_int (fun _ _ => rfl)) pa_nil))))
    (pss_cons (ps_lock (ps_setDcT (i := 2) (own := [("a", 6), ("b", 5), ("let", 7)]) (g := (gTup K 2 (gCons (gTup K 2 (gCons (gName 6) (gCons (gName 5) gNil))) (gCons (gName 7) gNil)))) (tt := tYes) (tk := (tTup (tCons (tVar 5) (tCons (tVar 6) tNil)))) (tv := (tCB (rSortU K 2 64) (tCons (tLc (iList K (tVar 7)) (gTup K 2 (gCons (gName 4) (gCons (gName 3) gNil))) tYes (tTup (tCons (tVar 3) (tCons (tVar 4) tNil))) [4, 3]) tNil))) hu rfl nd rfl rfl (sw_trueD rfl rfl rfl (by decide +kernel)) (pi_itemsT (pe_fld (pv 0) rfl)) (blkOk_by (N := nSwp) (sc := defScope s_swapped) (by decide +kernel)) (fun _ _ _ _ _ => (by exact (pg_tup (by rfl) (pgs_cons (pg_tup (by rfl) (pgs_cons (pg_name (i := 6) nd rfl (Or.inl rfl)) (pgs_cons (pg_name (i := 5) nd rfl (Or.inl rfl)) pgs_nil))) (pgs_cons (pg_name (i := 7) nd rfl (Or.inl rfl)) pgs_nil))))) (fun _ _ _ _ _ => pts_nil) (fun _ _ _ _ _ => (by exact (pe_tup (pa_cons (pv 5) (pa_cons (pv 6) pa_nil))))) (fun _ _ _ _ _ => (by exact (pe_callB (cr_sortT (d := 2) (B := 64) (by decide)) (by rfl) T2.sorted (by decide +kernel) (pa_cons (pe_lc (own := [("x", 4), ("y", 3)]) (g := (gTup K 2 (gCons (gName 4) (gCons (gName 3) gNil)))) (tt := tYes) (te := (tTup (tCons (tVar 3) (tCons (tVar 4) tNil)))) rfl nd (pi_list (pv 7)) (blkOk_by (N := nSwp)  (by kernel_rfl)) (fun _ _ _ _ _ => (by exact (pg_tup (by rfl) (pgs_cons (pg_name (i := 4) nd rfl (Or.inl rfl)) (pgs_cons (pg_name (i := 3) nd rfl (Or.inl rfl)) pgs_nil))))) (fun _ _ _ _ _ => pts_nil) (fun _ _ _ _ _ => (by exact (pe_tup (pa_cons (pv 3) (pa_cons (pv 4) pa_nil)))))) pa_nil))))))
    (pss_one (ps_ret (pe_make Tk.M Tk.G (hr.mono (by decide)) (by rfl) Tk.m Tk.b .nil pass0 (pa_cons (pv 1) (pa_cons (pv 2) pa_nil))))))), ?_⟩
  obtain ⟨dx, aa, d, hp, hA, hB⟩ := hT
  obtain ⟨t, x0, x1, e, ht, h0, h1⟩ := id hA
  obtain rfl : aa = t := by injection e
  refine ⟨_, rfl, p, C, dx, _, _, rfl, hp, Z.cl, Z.nA, flds_alone _ _, aa, _, _, _, rfl, rfl, SqL.of ht, atI_nat (j := 1) rfl, _, rfl, p, C, dx, _, _, rfl, hp, Z.cl, Z.nA, flds_alone _ _, aa, _, _, _, rfl, rfl, SqL.of ht, atI_nat (j := 0) rfl, (by show 2 ≤ sizeLine; decide), fun la hla => ?_⟩
  have s1 := same_new hla (.lst [x1, x0])
  have ela : (upd H la (.lst [x1, x0])) la = some (.lst [x1, x0]) := upd_same
  generalize upd H la (.lst [x1, x0]) = H1 at s1 ela ⊢
  obtain ⟨kvs, hd, ha⟩ := hB.mono s1
  have hp1 := s1 _ _ hp
  refine ⟨d, _, hd, trivial, fun od => ?_⟩
  have hd6 : (upd H1 d (.frz od (.dT kvs))) d = some (.frz od (.dT kvs)) := upd_same
  have npd : p ≠ d := ne_of hp1 hd (fun z => by cases z)
  refine ⟨_, rfl, p, C, dx, _, _, rfl, (by rw [upd_ne npd]; exact hp1), Z.cl, Z.nB, flds_both _ _, d, od, kvs, rfl, hd6, fun L hL => ?_⟩
  have nL : d ≠ L := ne_of_none hd6 hL
  have hLn : H1 L = none := none_of_but But.at (Ne.symm nL) hL
  refine itemT_turns (fun i H' => But d H1 H' ∧ H' d = some (.frz od (.dT kvs)) ∧ ∃ ks fs, H' L = some (.dT ks) ∧ A2 (EnAt H') ks fs ∧ A2 SwE (D.bo.take i) fs) ⟨But.at.trans (.same (same_new hL _)), by rw [upd_ne nL]; exact hd6, [], [], upd_same, .nil, .nil⟩ (fun i H' h => h.2.1) ?_ ?_
  · rintro i k x qa Tt H' hi hq hTn ⟨b1, e1, ks, fs, e2, as, aw⟩
    obtain ⟨eb, hbi, ek, hx⟩ := ha.get hi
    dsimp only at ek hx
    subst ek
    have hem := List.mem_of_getElem? hbi
    have okl := hW.lets eb hem
    have rg := hW.rng eb hem
    have s2 := same_new hTn (.tup [V.ref qa, x])
    have kp : Kp H1 (upd H' Tt (.tup [V.ref qa, x])) := (b1.kp hd nf_dT).trans (.same s2)
    obtain ⟨lt, lxs, rfl, hlt, alx⟩ := hx.mono kp
    have hqa : (upd H' Tt (.tup [V.ref qa, V.ref lt])) qa = some (.tup [V.int (eb.1.1 : Int), V.int (eb.1.2 : Int)]) := s2 _ _ hq
    have e12 := s2 _ _ e1
    have e22 := s2 _ _ e2
    have eT : (upd H' Tt (.tup [V.ref qa, V.ref lt])) Tt = some (.tup [V.ref qa, V.ref lt]) := upd_same
    have as2 := as.imp fun _ _ r => EnAt.mono (.same s2) r
    have b2 := b1.trans (But.same s2)
    generalize upd H' Tt (.tup [V.ref qa, V.ref lt]) = H2 at s2 hlt alx hqa e12 e22 eT as2 b2 kp ⊢
    refine ⟨Tt, _, rfl, SqT.of eT, rfl, _, _, rfl, qa, _, rfl, SqT.of hqa, rfl, _, _, rfl, _, _, rfl, rfl, _, _, rfl, rfl, rfl, ?_⟩
    refine ⟨_, rfl, _, rfl, (by show 2 ≤ sizeLine; decide), fun kt hkt => ?_⟩
    have s3 := same_new hkt (.tup [V.int (eb.1.2 : Int), V.int (eb.1.1 : Int)])
    have ekt : (upd H2 kt (.tup [V.int (eb.1.2 : Int), V.int (eb.1.1 : Int)])) kt = some (.tup [V.int (eb.1.2 : Int), V.int (eb.1.1 : Int)]) := upd_same
    generalize upd H2 kt (.tup [V.int (eb.1.2 : Int), V.int (eb.1.1 : Int)]) = H3 at s3 ekt ⊢
    have hlt3 := s3 _ _ hlt
    have alx3 := alx.imp fun _ _ r => TpAt.mono (.same s3) r
    refine ⟨_, rfl, lt, rfl, ⟨_, SqL.of hlt3⟩, fun L2 hL2 => ?_⟩
    refine list_turns (xs := lxs) (fun j H4 => Same H3 H4 ∧ ∃ us, H4 L2 = some (.lst us) ∧ A2 (TpAt H4) us ((eb.2.take j).map swp)) ⟨same_new hL2 _, [], upd_same, .nil⟩ (fun j H4 _ h => h.1.seq (SqL.of hlt3)) ?_ ?_
    · rintro j z H4 hz ⟨s4, us, hu4, au⟩
      obtain ⟨o, ho, tt, rfl, htt⟩ := alx3.get hz
      have htt4 := s4 _ _ htt
      refine ⟨tt, _, rfl, SqT.of htt4, rfl, _, _, rfl, _, _, rfl, rfl, rfl, _, rfl, _, rfl, (by show 2 ≤ sizeLine; decide), fun tn htn => ?_⟩
      have s5 := same_new htn (.tup [V.int o.2, V.int o.1])
      have hjl : us.length < 100 := by
        rw [au.len, List.length_map, List.length_take]
        have := hl60 eb hem
        omega
      have ntL : tn ≠ L2 := (ne_of_none hu4 htn).symm
      refine ⟨us, s5 _ _ hu4, Nat.lt_of_lt_of_le hjl (by decide), same_upd (s4.trans s5) hL2, _, upd_same, ?_⟩
      rw [take_mapf swp ho]
      have kt5 : ∀ v p, TpAt H4 v p → TpAt (upd (upd H4 tn (.tup [V.int o.2, V.int o.1])) L2 (.lst (us ++ [V.ref tn]))) v p := fun v p r => by
        obtain ⟨u, rfl, hu'⟩ := r
        exact ⟨u, rfl, by rw [upd_ne (ne_of hu' hu4 (fun z => by cases z))]; exact s5 _ _ hu'⟩
      exact A2.snoc (au.imp kt5) ⟨tn, rfl, by rw [upd_ne ntL]; exact upd_same⟩
    · rintro H4 ⟨s4, us, hu4, au⟩
      rw [alx3.len, List.take_length] at au
      have usl : us.length < 64 := by
        rw [au.len, List.length_map]
        have := hl60 eb hem
        omega
      have okm : ∀ o ∈ eb.2.map swp, okOut o.1 ∧ okOut o.2 := fun o ho => by
        obtain ⟨x, hx, rfl⟩ := List.mem_map.mp ho
        have := okl.2.2.2 x hx
        exact ⟨this.2, this.1⟩
      refine ⟨L2, us, rfl, SqL.of hu4, usl, fun x hx => ?_, fun ys lp pm pw hlp => ?_⟩
      · obtain ⟨o, ho, t', rfl, ht'⟩ := au.mem hx
        have := okm o ho
        refine ⟨[o.1, o.2], ⟨t', rfl, SqT.of ht'⟩, rfl, fun m hm => ?_⟩
        rcases List.mem_cons.mp hm with rfl | hm
        · have q1 := this.1.1; have q2 := this.1.2; omega
        · obtain rfl := List.mem_singleton.mp hm
          have q1 := this.2.1; have q2 := this.2.2; omega
      obtain ⟨ls, al, lpm, lpw⟩ := sortT_ls au (swp_nodup (let_nodup okl.2.2.1)) okm pm pw
      have s5 := same_new hlp (.lst ys)
      have elp : (upd H4 lp (.lst ys)) lp = some (.lst ys) := upd_same
      have al5 := al.imp fun _ _ r => TpAt.mono (.same s5) r
      have s25 : Same H2 (upd H4 lp (.lst ys)) := (s3.trans s4).trans s5
      have ek5 := s5 _ _ (s4 _ _ ekt)
      generalize upd H4 lp (.lst ys) = H5 at s5 elp al5 s25 ek5 ⊢
      have hks : ks.length < 100 := by
        rw [as.len, ← aw.len, List.length_take]
        have := hW.many
        omega
      have e25 := s25 _ _ e22
      refine ⟨ks, kI (swI eb.1), kt, rfl, ek5, e25, Nat.lt_of_lt_of_le hks (by decide), ?_⟩
      have hil : i < D.bo.length := (List.getElem?_eq_some_iff.mp hbi).1
      have hvn : valV ks (kI (swI eb.1)) = none := valV_noneP fun e he c => by
        obtain ⟨y, hy1, hy2, _⟩ := as.mem he
        rw [hy2] at c
        have c := kI_inj c
        obtain ⟨z, hz, r⟩ := aw.back hy1
        rw [r.1] at c
        have c := swI_inj c
        obtain ⟨j, hj⟩ := List.getElem?_of_mem hz
        have hjl : j < i := by
          have := (List.getElem?_eq_some_iff.mp hj).1
          rw [List.length_take] at this
          omega
        rw [List.getElem?_take_of_lt hjl] at hj
        have sr := List.pairwise_iff_getElem.mp hW.srt j i (by rw [List.length_map]; omega) (by rw [List.length_map]; exact hil) hjl
        rw [List.getElem_map, List.getElem_map, (List.getElem?_eq_some_iff.mp hj).2, (List.getElem?_eq_some_iff.mp hbi).2] at sr
        exact sr c
      rw [putK_new _ hvn]
      have kpl : Kp H5 (upd H5 L (.dT (ks ++ [(kI (swI eb.1), V.ref lp)]))) := .put e25 nf_dT
      refine ⟨(b2.trans (.same s25)).new hLn, by rw [upd_ne nL]; exact s25 _ _ e12, _, fs ++ [(swI eb.1, ls)], upd_same, ?_, ?_⟩
      · exact A2.snoc (as2.imp fun _ _ r => EnAt.mono ((Kp.same s25).trans kpl) r) (EnAt.mono kpl ⟨rfl, lp, ys, rfl, elp, al5⟩)
      · rw [take_get hbi]
        exact A2.snoc aw ⟨rfl, lpm, lpw⟩
  · rintro H6 ⟨b1, e1, ks, fs, e2, as, aw⟩
    rw [ha.len, List.take_length] at aw
    have s6 : Same H1 (upd H6 d (.dT kvs)) := b1.unlock hd
    have kp67 : Kp H6 (upd H6 d (.dT kvs)) := .put e1 nf_frz
    have e27 : (upd H6 d (.dT kvs)) L = some (.dT ks) := by rw [upd_ne (Ne.symm nL)]; exact e2
    have as7 := as.imp fun _ _ r => EnAt.mono kp67 r
    refine ⟨e1, ?_⟩
    generalize upd H6 d (.dT kvs) = H7 at s6 e27 as7 ⊢
    refine ⟨_, rfl, _, rfl, fun x dx2 hx hdx ne => ?_⟩
    have sx : Same H7 (upd (upd H7 dx2 (.own x)) x (.ins C dx2 [])) := (same_new hdx _).trans (same_new (by rw [upd_ne (Ne.symm ne)]; exact hx) _)
    have ex := upd_same (H := upd H7 dx2 (.own x)) (a := x) (o := .ins C dx2 [])
    generalize upd (upd H7 dx2 (.own x)) x (.ins C dx2 []) = H8 at sx ex ⊢
    have S : SwT D ⟨fun h => D.al (1 - h), fs⟩ := ⟨fun _ _ => rfl, aw⟩
    have s07 := s1.trans s6
    have s08 := s07.trans sx
    have hA8 : AlAt H8 (.ref la) (fun h => D.al (1 - h)) := ⟨la, x1, x0, rfl, sx _ _ (s6 _ _ ela), h1.mono (.same s08), h0.mono (.same s08)⟩
    refine ⟨x, dx2, la, L, ⟨fun h => D.al (1 - h), fs⟩, rfl, ex, hA8, ⟨ks, sx _ _ e27, as7.imp fun _ _ r => EnAt.mono (.same sx) r⟩, S.wf hW, fun H9 b9 n9 => ⟨rfl, ?_⟩⟩
    exact q x _ H9 ⟨same_of_but s08 (none_of_same s07 hx) b9, H8, s08, n9⟩ S (S.wf hW)
end
end TA

set_option Elab.async false
set_option maxRecDepth 100000
set_option maxHeartbeats 1600000
namespace TA
open PySem L2 PyProof.Rows
set_option linter.unusedVariables false
def rgI (n : Nat) : List Int := (List.range n).map fun (i : Nat) => (i : Int)
def neP (x y : Nat) : Bool := decide (x ≠ y)
def rowA (x j : Nat) : List (Int × Int) := ((List.range j).filter (neP x)).map fun (y : Nat) => ((x : Int), (y : Int))
def unA (n i : Nat) : List (Int × Int) := (List.range i).flatMap fun x => rowA x n
def apartT (n : Nat) : TD := ⟨fun _ => [rgI n], [((0, 0), unA n n)]⟩
theorem rowA_snoc (x j : Nat) : rowA x (j + 1) = rowA x j ++ (if neP x j = true then [((x : Int), (j : Int))] else []) := by
  unfold rowA
  rw [List.range_succ, List.filter_append, List.map_append]
  congr 1
  by_cases c : neP x j = true
  · rw [if_pos c, List.filter_cons_of_pos c]; rfl
  · rw [if_neg c, List.filter_cons_of_neg c]; rfl
theorem un_let (n : Nat) (h1 : 1 < n) (h : n < 8) : okLet (unA n n) := by
  obtain rfl | rfl | rfl | rfl | rfl | rfl : n = 2 ∨ n = 3 ∨ n = 4 ∨ n = 5 ∨ n = 6 ∨ n = 7 := by omega
  · exact okLetB_of (by decide +kernel)
  · exact okLetB_of (by decide +kernel)
  · exact okLetB_of (by decide +kernel)
  · exact okLetB_of (by decide +kernel)
  · exact okLetB_of (by decide +kernel)
  · exact okLetB_of (by decide +kernel)
theorem apart_wf {n : Nat} (h1 : 1 < n) (h : n < 8) : WF (apartT n) where
  n0 := fun h _ => ⟨by show 1 ≤ 1; decide, by show 1 ≤ 20; decide⟩
  row := fun h _ r hr => by
    obtain rfl := List.mem_singleton.mp hr
    unfold rgI
    refine ⟨by rw [List.length_map, List.length_range]; omega, by rw [List.length_map, List.length_range]; omega, ?_, fun x hx => ?_⟩
    · rw [List.pairwise_map]
      exact List.Pairwise.imp (fun {a b} (h : a < b) => by omega) List.pairwise_lt_range
    · obtain ⟨i, hi, rfl⟩ := List.mem_map.mp hx
      have := List.mem_range.mp hi
      unfold okOut
      omega
  srt := List.pairwise_singleton _ _
  rng := fun e he => by
    obtain rfl := List.mem_singleton.mp he
    exact ⟨(by show 0 < 1; decide), (by show 0 < 1; decide)⟩
  lets := fun e he => by
    obtain rfl := List.mem_singleton.mp he
    exact un_let n h1 h
  many := (by show 1 ≤ 60; decide)
  com0 := fun a ha => by
    have ha : a < 1 := ha
    exact ⟨_, List.mem_cons_self, by show 0 = a; omega⟩
  com1 := fun a ha => by
    have ha : a < 1 := ha
    exact ⟨_, List.mem_cons_self, by show 0 = a; omega⟩
def spApart (C : Addr) : Sp := fun vs H Q _ => ∃ n : Nat, vs = [.int (n : Int)] ∧ 1 < n ∧ n < 8 ∧ ∀ (p : Addr) (H' : Hp), NewT C H H' p (apartT n) → Q (.ref p) H'
theorem merge1 (a : V) : mergeT [] [(kI (0, 0), a)] = [(kI (0, 0), a)] := rfl
theorem rgV_rgI (n : Nat) : rgV 0 (n : Int) = (rgI n).map V.int := by
  unfold rgV rgI
  rw [List.map_map, show ((n : Int) - 0).toNat = n by omega]
  refine List.map_congr_left fun i _ => ?_
  show V.int (0 + (i : Int)) = V.int (i : Int)
  rw [Int.zero_add]
section
variable {P : Program} {w : World} {K : PySem.W.Frag} {mg : Str → Option Value} {base : Heap}
abbrev nApart : List Str := ["n", "unlike", "x", "y"]
theorem sc_apart : FnScope nApart ["n"] (defScope s_apart) := ⟨rfl, rfl, rfl, by decide +kernel, rfl, by decide +kernel, by decide +kernel⟩
theorem ok_apart {f g1 g3 C : Addr} {fd d1 d3 : FuncData} (F : Fun K "apart" "apart" s_apart f fd) (T : Txt K mg) (N : TxtN mg) (WW : Def P w K mg base "is_whole_within" ["thing", "least", "most"] 2 (spWithinG K) g1 d1) (Tk : KDef P w K mg base C "Task" ["self", "alone", "both"] 7 (spInit K C) g3 d3) : FnOk P w K mg base CX0 9 f fd ["n"] (spApart C) := by
  refine F.ok sc_apart (fun vs H Q E h => ?_) (fun cdv A outer s H vs Q E hr h => ?_)
  · obtain ⟨n, rfl, _⟩ := h
    rfl
  obtain ⟨n, rfl, hn0, hn5, q⟩ := h
  have nd := sc_apart.nd
  have hu := hu_of hr
  obtain ⟨t7, m7⟩ := N.seven
  refine ⟨_, (pss_cons (ps_if (pt_not (pt_val (pe_call WW.G (hr.mono (by decide)) rfl WW.m WW.k WW.b .nil pass0 (pa_cons (pv 0) (pa_cons pe_int (pa_cons (pe_glob (v := .int 7) rfl m7 ⟨_, rfl⟩) pa_nil))))))
      pss_never
      pss_nil)
    (pss_cons (ps_setLc2 (i := 1) (own := [("x", 2), ("y", 3)]) (vs1 := [3]) (wi1 := iRng1 (tCons (tVar 0) tNil)) (tt1 := tTest (tOp rNe (tVar 2) (tVar 3))) rfl nd rfl rfl (sw_true rfl rfl rfl (by decide +kernel)) (pi_range1 (by rfl) T.range (pa_cons (pv 0) pa_nil)) (blkOk_by (N := nApart) (sc := defScope s_apart) (by decide +kernel)) (by decide)
      (fun _ _ _ _ _ => pg_name (i := 2) nd rfl (Or.inl rfl)) (fun _ _ _ _ _ => pts_nil) (fun _ _ _ _ _ => (by refine pi_range1 (by rfl) T.range ?_; exact pa_cons (pv 0) pa_nil)) (fun _ _ _ _ _ => pg_name (i := 3) nd rfl (Or.inl rfl))
      (fun _ _ _ _ _ => (by refine pts_one ?_; exact pt_cmpR op_ne (pv 2) (pv 3) (nomark _)))
      (fun _ _ _ _ _ => pe_tup (pa_cons (pv 2) (pa_cons (pv 3) pa_nil))))
    (pss_one (ps_ret (pe_make Tk.M Tk.G (hr.mono (by decide)) (by rfl) Tk.m Tk.b .nil pass0 (pa_cons (pe_lst (pa_cons (pe_lst (pa_cons (pe_listRg rfl (by rfl) T.list (prg_1 (by rfl) T.range (pv 0))) pa_nil)) (pa_cons (pe_lst (pa_cons (pe_listRg rfl (by rfl) T.list (prg_1 (by rfl) T.range (pv 0))) pa_nil)) pa_nil))) (pa_cons (pe_dispT hu (pps_cons (pe_tup (pa_cons pe_int (pa_cons pe_int pa_nil))) (pv 1) pps_nil) (by rfl) (by rfl) (fun h => nomatch h) (by decide +kernel)) pa_nil))))))), ?_⟩
  refine ⟨_, rfl, _, _, _, _, rfl, .int _, ?_⟩
  rw [show within (.int (n : Int)) 2 7 = true from decide_eq_true (by omega)]
  refine ⟨true, rfl, iteF ?_⟩
  refine ⟨_, rfl, (n : Int), rfl, by omega, by omega, fun c hc => ?_⟩
  have en : ((n : Int)).toNat = n := by omega
  rw [en]
  refine range_turns (n := n) (fun i H' => Same H H' ∧ ∃ ys, H' c = some (.lst ys) ∧ A2 (TpAt H') ys (unA n i) ∧ ys.length ≤ 8 * i) ⟨same_new hc _, [], upd_same, .nil, Nat.zero_le _⟩ ?_ ?_
  · rintro i H' hi ⟨s1, ys, hy, ay, ly⟩
    have ej : (0 : Int) + (i : Int) = (i : Int) := by omega
    rw [ej]
    refine ⟨rfl, _, rfl, (n : Int), rfl, by omega, by omega, ?_⟩
    rw [en]
    refine range_turns (n := n) (fun j H' => Same H H' ∧ ∃ ys, H' c = some (.lst ys) ∧ A2 (TpAt H') ys (unA n i ++ rowA i j) ∧ ys.length ≤ 8 * i + j) ⟨s1, ys, hy, by rw [show rowA i 0 = [] from by unfold rowA; rfl, List.append_nil]; exact ay, ly⟩ ?_ ?_
    · rintro j H2 hj ⟨s2, zs, hz, az, lz⟩
      have ej : (0 : Int) + (j : Int) = (j : Int) := by omega
      rw [ej]
      refine ⟨rfl, _, rfl, _, rfl, rfl, _, rfl, ?_⟩
      have hc2 : (!decide (V.int (i : Int) = V.int (j : Int))) = neP i j := by
        rw [dec_nat]
        unfold neP
        simp
      by_cases c3 : neP i j = true
      · refine iteT' (hc2.trans c3) ?_
        refine ⟨_, rfl, _, rfl, (by show 2 ≤ sizeLine; decide), fun t ht => ?_⟩
        have s3 := same_new ht (.tup [V.int (i : Int), V.int (j : Int)])
        refine ⟨zs, s3 _ _ hz, Nat.lt_of_le_of_lt (show zs.length ≤ 100 by omega) (by decide), same_upd (s2.trans s3) hc, _, upd_same, ?_, by rw [List.length_append]; show zs.length + 1 ≤ _; omega⟩
        rw [rowA_snoc, if_pos c3, ← List.append_assoc]
        exact A2.snoc (az.imp fun _ _ r => (r.mono (.same s3)).but (s3 _ _ hz) But.at) (TpAt.but (s3 _ _ hz) But.at ⟨t, rfl, upd_same⟩)
      · refine iteF' (hc2.trans (Bool.eq_false_iff.mpr c3)) ?_
        refine ⟨s2, zs, hz, ?_, by omega⟩
        rw [rowA_snoc, if_neg c3, List.append_nil]
        exact az
    · rintro H2 ⟨s2, zs, hz, az, lz⟩
      refine ⟨s2, zs, hz, ?_, by omega⟩
      have : unA n (i + 1) = unA n i ++ rowA i n := by
        unfold unA
        rw [List.range_succ, List.flatMap_append]
        simp
      rw [this]
      exact az
  rintro H0 ⟨sH, ys, hy, ay, ly⟩
  have hL : LetAt H0 (.ref c) (unA n n) := ⟨c, ys, rfl, hy, ay⟩
  clear hy ay ly hc en
  have rg : RgOk 0 (n : Int) := RgOk.of_le (by omega) (by omega) (by omega) (by omega)
  refine ⟨_, rfl, (n : Int), rfl, rg, fun q0 hq0 => ?_⟩
  rw [rgV_rgI]
  refine ⟨(by show 1 ≤ sizeLine; decide), fun r0 hr0 => ⟨_, rfl, (n : Int), rfl, rg, fun q1 hq1 => ?_⟩⟩
  rw [rgV_rgI]
  refine ⟨(by show 1 ≤ sizeLine; decide), fun r1 hr1 => ⟨(by show 2 ≤ sizeLine; decide), fun al hal => ?_⟩⟩
  have e1 := same_new hq0 (.lst ((rgI n).map V.int))
  have e2 := same_new hr0 (.lst [V.ref q0])
  have e3 := same_new hq1 (.lst ((rgI n).map V.int))
  have e4 := same_new hr1 (.lst [V.ref q1])
  have e5 := same_new hal (.lst [V.ref r0, V.ref r1])
  have z0 : RowsAt _ (.ref r0) [rgI n] := ⟨r0, _, rfl, upd_same, .cons ⟨q0, rfl, e2 _ _ upd_same⟩ .nil⟩
  have z1 : RowsAt _ (.ref r1) [rgI n] := ⟨r1, _, rfl, upd_same, .cons ⟨q1, rfl, e4 _ _ upd_same⟩ .nil⟩
  have e345 := (e3.trans e4).trans e5
  have hA : AlAt _ (.ref al) (apartT n).al := ⟨al, _, _, rfl, upd_same, z0.mono (.same e345), z1.mono (.same e5)⟩
  have sM := (e1.trans e2).trans e345
  generalize upd (upd (upd (upd (upd H0 q0 _) r0 _) q1 _) r1 _) al _ = M at sM hA ⊢
  clear e1 e2 e3 e4 e5 z0 z1 e345 hq0 hr0 hq1 hr1 hal
  intro d hd
  have a0 := same_new hd (.dT [])
  have hdd : (upd M d (.dT [])) d = some (.dT []) := upd_same
  refine ⟨(by show 2 ≤ sizeLine; decide), fun k0 hk0 => ⟨_, rfl, ?_⟩⟩
  have a1 := same_new hk0 (.tup [V.int 0, V.int 0])
  have hd1 := a1 _ _ hdd
  refine ⟨hd1, [(kI (0, 0), .ref c)], .cons ⟨⟨k0, rfl, upd_same⟩, rfl⟩ .nil, (by show 1 ≤ 15; decide), ?_⟩
  rw [merge1]
  have c0 : Same M (upd (upd (upd M d (.dT [])) k0 (.tup [V.int 0, V.int 0])) d (.dT [(kI (0, 0), .ref c)])) := same_upd (a0.trans a1) hd
  have hB : BoAt (upd (upd (upd M d (.dT [])) k0 (.tup [V.int 0, V.int 0])) d (.dT [(kI (0, 0), .ref c)])) d (apartT n).bo := ⟨_, upd_same, .cons ⟨rfl, hL.mono (.same (sM.trans c0))⟩ .nil⟩
  generalize upd (upd (upd M d (.dT [])) k0 (.tup [V.int 0, V.int 0])) d (.dT [(kI (0, 0), .ref c)]) = M2 at c0 hB ⊢
  clear a0 a1 hdd hd1 hk0
  intro x dx nx ndx nex
  have s4 : Same M2 (upd (upd M2 dx (.own x)) x (.ins C dx [])) := fun b o e => by
    rw [upd_ne (ne_of_none e nx), upd_ne (ne_of_none e ndx)]
    exact e
  refine ⟨x, dx, al, d, _, rfl, upd_same, hA.mono (.same (c0.trans s4)), hB.mono s4, apart_wf hn0 hn5, fun H5 b5 hnew => ⟨rfl, ?_⟩⟩
  have s5 : Same M2 H5 := fun b o e => b5 _ _ (ne_of_none e nx) (s4 _ _ e)
  exact q x H5 ⟨((sH.trans sM).trans c0).trans s5, _, ((sH.trans sM).trans c0).trans s4, hnew⟩
end
end TA

set_option Elab.async false
set_option maxRecDepth 100000
set_option maxHeartbeats 4000000
namespace TB
open TA PySem L2 PyProof.Rows
set_option linter.unusedVariables false
/-- a task whose pairs stand sorted -/
structure WFS (T : TD) : Prop extends WF T where
  srtN : (T.bo.map (·.1)).Pairwise ltN
theorem inV_int (x : Int) (fs : List Int) : inV (.int x) (fs.map V.int) = decide (x ∈ fs) := by
  induction fs with
  | nil => rfl
  | cons y r ih =>
    show (eqV (.int y) (.int x) || inV (.int x) (r.map V.int)) = _
    rw [ih]
    by_cases c : y = x
    · subst c
      rw [show eqV (.int y) (.int y) = true from by simp [eqV]]
      simp
    · rw [show eqV (.int y) (.int x) = false from by simp [eqV, c]]
      by_cases m : x ∈ r
      · simp [m]
      · have : ¬ x = y := fun e => c e.symm
        simp [m, this]
theorem flat_ints (fs : List Int) : (fs.map V.int).all flatV = true := by
  rw [List.all_eq_true]
  intro v hv
  obtain ⟨x, _, rfl⟩ := List.mem_map.mp hv
  rfl
def hasK (bo : BD) (xy : Int × Int) : Bool := bo.any fun e => decide (iI e.1 = xy)
theorem hasK_yes {bo : BD} {e : IP × List (Int × Int)} (h : e ∈ bo) : hasK bo (iI e.1) = true := List.any_eq_true.mpr ⟨e, h, decide_eq_true rfl⟩
def k2 (xy : Int × Int) : List Key := [.inl xy.1, .inl xy.2]
theorem k2_iff {p : IP} {xy : Int × Int} : kI p = k2 xy ↔ iI p = xy := by
  unfold kI k2 iI
  constructor
  · intro h
    injection h with h1 h2
    injection h2 with h2 _
    injection h1 with h1
    injection h2 with h2
    exact Prod.ext h1 h2
  · intro h
    rw [← h]
theorem some_hasK {H : Hp} : ∀ {kvs : List (List Key × V)} {bo : BD}, A2 (EnAt H) kvs bo → ∀ xy, (valV kvs (k2 xy)).isSome = hasK bo xy
  | _, _, .nil, _ => rfl
  | (k, v) :: kvs, b :: bo, .cons a r, xy => by
    obtain ⟨ek, _⟩ := a
    dsimp only at ek
    subst ek
    show _ = (decide (iI b.1 = xy) || hasK bo xy)
    by_cases c : iI b.1 = xy
    · rw [valV_pos (k2_iff.mpr c), decide_eq_true c]
      rfl
    · rw [valV_neg (fun h => c (k2_iff.mp h)), some_hasK r xy, decide_eq_false c, Bool.false_or]
theorem iI_inj {p q : IP} (h : iI p = iI q) : p = q := by
  unfold iI at h
  injection h with h1 h2
  exact Prod.ext (by omega) (by omega)
/-- what the dict holds at a pair that comes -/
theorem val_at {H : Hp} : ∀ {kvs : List (List Key × V)} {bo : BD}, A2 (EnAt H) kvs bo → (bo.map (·.1)).Pairwise ltN → ∀ e ∈ bo, ∃ v, valV kvs (kI e.1) = some v ∧ LetAt H v e.2
  | _, _, .nil, _, e, m => by cases m
  | (k, v) :: kvs, b :: bo, .cons a r, s, e, m => by
    obtain ⟨ek, hl⟩ := a
    dsimp only at ek hl
    subst ek
    rw [List.map_cons, List.pairwise_cons] at s
    rcases List.mem_cons.mp m with rfl | m
    · exact ⟨v, valV_pos rfl, hl⟩
    · rw [valV_neg (fun h => ltN_ne (s.1 _ (List.mem_map.mpr ⟨e, m, rfl⟩)) (kI_inj h))]
      exact val_at r s.2 e m
def rowB (d : PyData) (m : Nat) : Bool := match d with
  | .list ds => decide (ds.length = m) && (ds.map outB).all id
  | _ => false
def chosenB (d : PyData) (n0 n1 : Nat) : Bool := match d with
  | .list [d0, d1] => rowB d0 n0 && rowB d1 n1
  | _ => false
def okA (T : TD) (ch : Nat → List Int) (h a : Nat) : Prop := (ch h).getD a 0 ∈ (T.al h).getD a []
instance {T : TD} {ch : Nat → List Int} {h a : Nat} : Decidable (okA T ch h a) := by unfold okA; exact inferInstance
def spInputs (K : PySem.W.Frag) (C : Addr) : Sp := fun vs H Q _ => ∃ (p : Addr) (h : Nat) (T : TD), vs = [.ref p, .int (h : Int)] ∧ h < 2 ∧ TaskAt C H p T ∧ Q (.int ((T.al h).length : Int)) H
def spPairs (K : PySem.W.Frag) (C : Addr) : Sp := fun vs H Q _ => ∃ (p : Addr) (T : TD), vs = [.ref p] ∧ TaskAt C H p T ∧ WFS T ∧ ∀ (r : Addr) (xs : List V), H r = none → A2 (TpAt H) xs (T.bo.map fun e => iI e.1) → Q (.ref r) (upd H r (.lst xs))
def spPair (K : PySem.W.Frag) (C : Addr) : Sp := fun vs H Q _ => ∃ (p : Addr) (v : V) (T : TD) (xy : Int × Int), vs = [.ref p, v] ∧ TaskAt C H p T ∧ WFS T ∧ TpAt H v xy ∧ ∀ H', Same H H' → Q (.bl (hasK T.bo xy)) H'
def spRow (K : PySem.W.Frag) : Sp := fun vs H Q _ => ∃ (v : V) (d : PyData) (m : Nat), vs = [v, .int (m : Int)] ∧ Dp K H v d ∧ small d ∧ ∀ H', Same H H' → Q (.bl (rowB d m)) H'
def spChosen (K : PySem.W.Frag) (C : Addr) : Sp := fun vs H Q _ => ∃ (p : Addr) (v : V) (d : PyData) (T : TD), vs = [.ref p, v] ∧ TaskAt C H p T ∧ Dp K H v d ∧ (∀ ds, d = .list ds → ∀ e ∈ ds, small e) ∧ ∀ H', Same H H' → Q (.bl (chosenB d (T.al 0).length (T.al 1).length)) H'
/-- what alone_fault tells -/
def AloneRes (T : TD) (ch : Nat → List Int) (fv : V) (H' : Hp) : Prop := (fv = .non ∧ ∀ h a, h < 2 → a < (T.al h).length → okA T ch h a) ∨
  ∃ r h a, fv = .ref r ∧ H' r = some (.tup [.str "alone", .int ((h : Nat) : Int), .int ((a : Nat) : Int)]) ∧ h < 2 ∧ a < (T.al h).length ∧ ¬ okA T ch h a ∧ ∀ h' a', h' < 2 → a' < (T.al h').length → (h' < h ∨ (h' = h ∧ a' < a)) → okA T ch h' a'
def spAloneF (K : PySem.W.Frag) (C : Addr) : Sp := fun vs H Q _ => ∃ (p : Addr) (v : V) (T : TD) (ch : Nat → List Int), vs = [.ref p, v] ∧ TaskAt C H p T ∧ WFS T ∧ RowsAt H v [ch 0, ch 1] ∧ (∀ h, h < 2 → (ch h).length = (T.al h).length) ∧
  ∀ fv H', Same H H' → AloneRes T ch fv H' → Q fv H'
section
variable {P : Program} {w : World} {K : PySem.W.Frag} {mg : Str → Option Value} {base : Heap}
abbrev nInputs : List Str := ["self", "hand"]
theorem sc_inputs : FnScope nInputs nInputs (defScope s_inputs) := ⟨rfl, rfl, rfl, by decide +kernel, rfl, by decide +kernel, by decide +kernel⟩
theorem within_hand {h : Nat} (hh : h < 2) : within (.int (h : Int)) 0 1 = true := by
  show decide ((0 : Int) ≤ (h : Int) ∧ (h : Int) ≤ 1) = true
  exact decide_eq_true (by omega)
theorem ok_inputs {f g C : Addr} {fd gd : FuncData} (F : Fun K "inputs" "Task.inputs" s_inputs f fd) (T : Txt K mg) (Z : TxtC K mg C) (WH : Def P w K mg base "is_hand" ["thing"] 3 (spHandG K) g gd) : FnOk P w K mg base CX0 4 f fd nInputs (spInputs K C) := by
  refine F.ok sc_inputs (fun vs H Q E h => ?_) (fun cdv A outer s H vs Q E hr h => ?_)
  · obtain ⟨p, h, D, rfl, _⟩ := h
    rfl
  obtain ⟨p, h, D, rfl, hh, hT, q⟩ := h
  refine ⟨_, (pss_cons (ps_if (pt_not (pt_val (pe_call WH.G (hr.mono (by decide)) rfl WH.m WH.k WH.b .nil pass0 (pa_cons (pv 1) pa_nil))))
      pss_never
      pss_nil)
    (pss_one (ps_ret (pe_callB call_len_seq (by rfl) T.len PySem.boot_len (pa_cons (pe_ix ix_list (pe_fld (pv 0) rfl) (pv 1) (fun _ _ => rfl)) pa_nil))))), ?_⟩
  obtain ⟨dx, a, d, hp, hA, _⟩ := hT
  obtain ⟨t, x0, x1, e, ht, hrow⟩ := hA.row
  obtain rfl : a = t := by injection e
  obtain ⟨x, hx, r, xs, rfl, hr2, ha2⟩ := hrow h hh
  refine ⟨_, rfl, _, _, rfl, .int _, ?_⟩
  rw [within_hand hh]
  refine ⟨true, rfl, iteF ?_⟩
  refine ⟨_, rfl, p, C, dx, _, _, rfl, hp, Z.cl, Z.nA, flds_alone _ _, _, rfl, a, _, _, _, rfl, rfl, SqL.of ht, atI_nat hx, r, xs, rfl, .inl (SqL.of hr2), ?_⟩
  rw [ha2.len]
  exact q
abbrev nPairs : List Str := ["self"]
theorem sc_pairs : FnScope nPairs nPairs (defScope s_pairs) := ⟨rfl, rfl, rfl, by decide +kernel, rfl, by decide +kernel, by decide +kernel⟩
theorem keys_sorted {T : TD} (W : WFS T) {L : List (Addr × List Int)} (h1 : (L.map (·.2)).Perm (T.bo.map fun e => [((e.1.1 : Nat) : Int), ((e.1.2 : Nat) : Int)])) (h2 : L.Pairwise (fun q r => TS.code 64 q.2 ≤ TS.code 64 r.2)) :
    L.map (·.2) = T.bo.map fun e => [((e.1.1 : Nat) : Int), ((e.1.2 : Nat) : Int)] := by
  have n0 := (W.n0 0 (by decide)).2
  have n1 := (W.n0 1 (by decide)).2
  have bd : ∀ x ∈ T.bo.map (fun e => [((e.1.1 : Nat) : Int), ((e.1.2 : Nat) : Int)]), ∃ a b : Nat, a < 20 ∧ b < 20 ∧ x = [(a : Int), (b : Int)] := fun x hx => by
    obtain ⟨e, he, rfl⟩ := List.mem_map.mp hx
    have := W.rng e he
    exact ⟨e.1.1, e.1.2, by omega, by omega, rfl⟩
  refine List.Perm.eq_of_pairwise (le := fun a b => TS.code 64 a ≤ TS.code 64 b) (fun a b ha hb h h' => ?_) (List.pairwise_map.mpr h2) ?_ h1
  · obtain ⟨a1, a2, _, _, rfl⟩ := bd a (h1.mem_iff.mp ha)
    obtain ⟨b1, b2, _, _, rfl⟩ := bd b hb
    rw [code_pair, code_pair] at h h'
    have e1 : a1 = b1 := by omega
    have e2 : a2 = b2 := by omega
    rw [e1, e2]
  · rw [List.pairwise_map]
    have s := W.srtN
    rw [List.pairwise_map] at s
    refine s.imp_of_mem fun {a b} ha hb h => ?_
    have := W.rng a ha
    have := W.rng b hb
    rw [code_pair, code_pair]
    rcases h with h | ⟨h, h'⟩
    · omega
    · omega
theorem ok_pairs {f C : Addr} {fd : FuncData} (F : Fun K "pairs" "Task.pairs" s_pairs f fd) (T2 : Txt2 K mg) (Z : TxtC K mg C) : FnOk P w K mg base CX0 1 f fd nPairs (spPairs K C) := by
  refine F.ok sc_pairs (fun vs H Q E h => ?_) (fun cdv A outer s H vs Q E hr h => ?_)
  · obtain ⟨p, D, rfl, _⟩ := h
    rfl
  obtain ⟨p, D, rfl, hT, hW, q⟩ := h
  refine ⟨_, (pss_one (ps_ret (pe_callB (cr_sortedDT (d := 2) (B := 64) (by decide) rfl) (by rfl) T2.sorted (by decide +kernel) (pa_cons (pe_fld (pv 0) rfl) pa_nil)))), ?_⟩
  obtain ⟨dx, a, d, hp, hA, kvs, hd, ha⟩ := hT
  refine ⟨_, rfl, p, C, dx, _, _, rfl, hp, Z.cl, Z.nB, flds_both _ _, d, kvs, D.bo.map (fun e => [((e.1.1 : Nat) : Int), ((e.1.2 : Nat) : Int)]), rfl, .inl hd, ?_, ?_, ?_, fun L r h1 h2 h3 hr0 => ?_⟩
  · rw [keys_of ha, List.map_map, List.map_map]
    rfl
  · rw [List.length_map]
    have := hW.many
    omega
  · intro ns hns
    obtain ⟨e, he, rfl⟩ := List.mem_map.mp hns
    have := hW.rng e he
    have := (hW.n0 0 (by decide)).2
    have := (hW.n0 1 (by decide)).2
    refine ⟨rfl, fun m hm => ?_⟩
    rcases List.mem_cons.mp hm with rfl | hm
    · omega
    · obtain rfl := List.mem_singleton.mp hm
      omega
  · refine q r _ hr0 ?_
    have e := keys_sorted hW h1 h2
    clear h1 h2 q
    generalize D.bo = bo at e
    induction L generalizing bo with
    | nil =>
      cases bo with
      | nil => exact .nil
      | cons _ _ => cases e
    | cons x L ih =>
      cases bo with
      | nil => cases e
      | cons b bo =>
        rw [List.map_cons, List.map_cons] at e
        injection e with e1 e2
        refine .cons ⟨x.1, rfl, ?_⟩ (ih (fun y hy => h3 y (List.mem_cons_of_mem _ hy)) bo e2)
        rw [h3 x List.mem_cons_self, e1]
        rfl
abbrev nIsPair : List Str := ["task", "thing"]
theorem sc_ispair : FnScope nIsPair nIsPair (defScope s_is_pair) := ⟨rfl, rfl, rfl, by decide +kernel, rfl, by decide +kernel, by decide +kernel⟩
theorem inB_hasK {T : TD} (W : WFS T) {xy : Int × Int} (h : inB (T.al 0).length (T.al 1).length (TA.pairD xy) = false) : hasK T.bo xy = false := by
  cases c : hasK T.bo xy with
  | false => rfl
  | true =>
    obtain ⟨e, he, h1⟩ := List.any_eq_true.mp c
    have h2 := of_decide_eq_true h1
    rw [← h2, in_yes (W.rng e he)] at h
    cases h
theorem ok_ispair {f g C : Addr} {fd gd : FuncData} (F : Fun K "is_pair" "is_pair" s_is_pair f fd) (T : Txt K mg) (Z : TxtC K mg C) (W1 : Def P w K mg base "is_input_pair" ["thing", "alone"] 3 (spInp K) g gd) : FnOk P w K mg base CX0 4 f fd nIsPair (spPair K C) := by
  refine F.ok sc_ispair (fun vs H Q E h => ?_) (fun cdv A outer s H vs Q E hr h => ?_)
  · obtain ⟨p, v, D, xy, rfl, _⟩ := h
    rfl
  obtain ⟨p, v, D, xy, rfl, hT, hW, hv, q⟩ := h
  have hu := hu_of hr
  refine ⟨_, (pss_one (ps_ret (pe_and (pe_call W1.G (hr.mono (by decide)) rfl W1.m W1.k W1.b .nil pass0 (pa_cons (pv 1) (pa_cons (pe_fld (pv 0) rfl) pa_nil))) (pe_one (pe_cmp (pc_din hu (pv 1) (pe_fld (pv 0) rfl)) rfl))))), ?_⟩
  obtain ⟨dx, a, d, hp, hA, hB⟩ := hT
  obtain ⟨al, e, hal⟩ := hA.at2 (K := K)
  obtain rfl : a = al := by injection e
  refine ⟨_, rfl, _, rfl, p, C, dx, _, _, rfl, hp, Z.cl, Z.nA, flds_alone _ _, v, _, a, _, _, rfl, hv.dp, hal, fun H1 s1 => ⟨_, rfl, ?_⟩⟩
  cases c : inB (D.al 0).length (D.al 1).length (TA.pairD xy) with
  | false =>
    rw [inB_hasK hW c] at q
    exact iteF (q _ s1)
  | true =>
    obtain ⟨kvs, hd, ha⟩ := hB.mono s1
    obtain ⟨t, rfl, ht⟩ := hv.mono (.same s1)
    refine iteT ⟨_, rfl, _, rfl, p, C, dx, _, _, rfl, s1 _ _ hp, Z.cl, Z.nB, flds_both _ _, d, _, rfl, DGet.t (k := k2 xy) hd ht, ?_⟩
    rw [some_hasK ha]
    exact q _ s1
abbrev nRow : List Str := ["thing", "many", "x"]
theorem sc_row : FnScope nRow ["thing", "many"] (defScope s_is_row) := ⟨rfl, rfl, rfl, by decide +kernel, rfl, by decide +kernel, by decide +kernel⟩
theorem ok_row {f g : Addr} {fd gd : FuncData} (F : Fun K "is_row" "is_row" s_is_row f fd) (T : Txt K mg) (WO : Def P w K mg base "is_output" ["thing"] 3 (spOut K) g gd) : FnOk P w K mg base CX0 4 f fd ["thing", "many"] (spRow K) := by
  refine F.ok sc_row (fun vs H Q E h => ?_) (fun cdv A outer s H vs Q E hr h => ?_)
  · obtain ⟨v, d, m, rfl, _⟩ := h
    rfl
  obtain ⟨v, d, m, rfl, hk, hz, q⟩ := h
  have nd := sc_row.nd
  refine ⟨_, (pss_one (ps_ret (pe_and (pe_callB call_isi (by rfl) T.isi boot_isinstance (pa_cons (pv 0) (pa_cons (pe_bltn (v := .ty "list") (by rfl) T.list boot_list rfl) pa_nil))) (pe_and (pe_cmpR op_eq (pe_callB call_len_seq (by rfl) T.len PySem.boot_len (pa_cons (pv 0) pa_nil)) (pv 1) (nomark _)) (pe_one (pe_callB (cr_all rfl) (by rfl) T.all (by decide +kernel) (pa_cons (pe_lc (own := [("x", 2)]) (g := (gName 2)) (tt := tYes) (te := (tCall (spOut K) [] E0 (tCons (tVar 2) tNil))) rfl nd (pi_list (pv 0)) (blkOk_by (N := nRow) (sc := defScope s_is_row) (by decide +kernel)) (fun _ _ _ _ _ => (by exact (pg_name (i := 2) nd rfl (Or.inl rfl)))) (fun _ _ _ _ _ => pts_nil) (fun _ _ _ _ _ => (by exact (pe_call WO.G (hr.mono (by decide)) rfl WO.m WO.k WO.b .nil pass0 (pa_cons (pv 2) pa_nil))))) pa_nil))))))), ?_⟩
  refine ⟨_, rfl, v, .ty "list", _, _, isLstD d, rfl, .ty "list", dp_ty hk, kit_lst d, _, rfl, ?_⟩
  cases cl : isLstD d with
  | false =>
    have : rowB d m = false := by cases d <;> first | rfl | cases cl
    rw [this] at q
    exact iteF (q _ (Same.refl H))
  | true =>
    obtain ⟨ds, rfl⟩ : ∃ ds, d = .list ds := by cases d <;> first | exact ⟨_, rfl⟩ | cases cl
    obtain ⟨p, vs, rfl, hS, hD⟩ : ∃ t vs, v = .ref t ∧ SqL K H t vs ∧ DpAll K H vs ds := by
      cases hk with
      | lst a b => exact ⟨_, _, rfl, a, b⟩
    have hl := dpAll_len hD
    have hds := hz ds rfl
    have eO : rowB (.list ds) m = (decide (ds.length = m) && (ds.map outB).all id) := rfl
    refine iteT ⟨_, rfl, p, _, rfl, .inl hS, _, rfl, rfl, _, rfl, ?_⟩
    rw [hl, dec_nat]
    by_cases c : ds.length = m
    case neg =>
      rw [eO, decide_eq_false c, Bool.false_and] at q
      refine iteF' (decide_eq_false c) ?_
      exact q _ (Same.refl H)
    rw [eO, decide_eq_true c, Bool.true_and] at q
    refine iteT' (decide_eq_true c) ?_
    refine ⟨_, rfl, p, rfl, ⟨_, hS⟩, fun D hD' => ?_⟩
    refine list_turns (xs := vs) (fun i H' => Same H H' ∧ H' D = some (.lst (((ds.map outB).take i).map V.bl))) ⟨same_new hD' _, upd_same⟩ (fun i H' _ h => h.1.seq hS) ?_ ?_
    · rintro i x H' hx ⟨s1, h1⟩
      obtain ⟨di, hdi, hxi⟩ := dpAll_get hD hx
      have hi : i < ds.length := (List.getElem?_eq_some_iff.mp hdi).1
      have hb : (ds.map outB)[i]? = some (outB di) := by rw [List.getElem?_map, hdi]; rfl
      refine ⟨rfl, _, rfl, x, di, rfl, dp_mono s1 _ _ hxi, _, h1, ?_, same_upd s1 hD', by rw [upd_same, take_bl _ hb]⟩
      rw [List.length_map]
      exact Nat.lt_of_le_of_lt (List.length_take_le _ _) (Nat.lt_of_lt_of_le hi (Nat.le_trans hds (by decide)))
    · rintro H1 ⟨s1, h1⟩
      rw [hl, ← List.length_map (f := outB), List.take_length] at h1
      exact ⟨D, _, rfl, SqL.of h1, q _ s1⟩
end
end TB

set_option Elab.async false
set_option maxRecDepth 100000
set_option maxHeartbeats 4000000
namespace TB
open TA PySem L2 PyProof.Rows
set_option linter.unusedVariables false
theorem two_cases (ds : List PyData) : (∃ x y, ds = [x, y]) ∨ ds.length ≠ 2 := by
  match ds with
  | [x, y] => exact .inl ⟨x, y, rfl⟩
  | [] | [_] | _ :: _ :: _ :: _ => exact .inr (by simp)
theorem chosen_no {ds : List PyData} {n0 n1 : Nat} (h : ds.length ≠ 2) : chosenB (.list ds) n0 n1 = false := by
  match ds, h with
  | [x, y], h => exact absurd rfl h
  | [], _ | [_], _ | _ :: _ :: _ :: _, _ => rfl
theorem hand_at {i : Nat} {z : V} (h : ([V.int 0, V.int 1] : List V)[i]? = some z) : i < 2 ∧ z = .int (i : Int) := by
  have hi : i < 2 := (List.getElem?_eq_some_iff.mp h).1
  refine ⟨hi, ?_⟩
  obtain rfl | rfl : i = 0 ∨ i = 1 := by omega
  · simpa using h.symm
  · simpa using h.symm
section
variable {P : Program} {w : World} {K : PySem.W.Frag} {mg : Str → Option Value} {base : Heap}
abbrev nChosen : List Str := ["task", "thing", "hand"]
theorem sc_chosen : FnScope nChosen ["task", "thing"] (defScope s_is_chosen) := ⟨rfl, rfl, rfl, by decide +kernel, rfl, by decide +kernel, by decide +kernel⟩
theorem ok_chosen {f g1 g2 C : Addr} {fd d1 d2 : FuncData} (F : Fun K "is_chosen" "is_chosen" s_is_chosen f fd) (T : Txt K mg) (U : TxtH K mg) (Z : TxtC K mg C) (WR : Def P w K mg base "is_row" ["thing", "many"] 4 (spRow K) g1 d1)
    (Inp : MDef P w K mg base C "inputs" nInputs 4 (spInputs K C) g2 d2) : FnOk P w K mg base CX0 5 f fd ["task", "thing"] (spChosen K C) := by
  refine F.ok sc_chosen (fun vs H Q E h => ?_) (fun cdv A outer s H vs Q E hr h => ?_)
  · obtain ⟨p, v, d, D, rfl, _⟩ := h
    rfl
  obtain ⟨p, v, d, D, rfl, hTk, hk, hz, q⟩ := h
  obtain ⟨hT, mH, hH⟩ := U.hands
  have nd := sc_chosen.nd
  refine ⟨_, (pss_one (ps_ret (pe_and (pe_callB call_isi (by rfl) T.isi boot_isinstance (pa_cons (pv 1) (pa_cons (pe_bltn (v := .ty "list") (by rfl) T.list boot_list rfl) pa_nil))) (pe_and (pe_cmpR op_eq (pe_callB call_len_seq (by rfl) T.len PySem.boot_len (pa_cons (pv 1) pa_nil)) pe_int (nomark _)) (pe_one (pe_callB (cr_all rfl) (by rfl) T.all (by decide +kernel) (pa_cons (pe_lc (own := [("hand", 2)]) (g := (gName 2)) (tt := tYes) (te := (tCall (spRow K) [] E0 (tCons (tOp (rIxL K) (tVar 1) (tVar 2)) (tCons (tMeth C "inputs" (spInputs K C) [] E0 (tVar 0) (tCons (tVar 2) tNil)) tNil)))) rfl nd (pi_tup (pe_glob (v := .ref hT) rfl mH rfl)) (blkOk_by (N := nChosen) (sc := defScope s_is_chosen) (by decide +kernel)) (fun _ _ _ _ _ => (by exact (pg_name (i := 2) nd rfl (Or.inl rfl)))) (fun _ _ _ _ _ => pts_nil) (fun _ _ _ _ _ => (by exact (pe_call WR.G (hr.mono (by decide)) rfl WR.m WR.k WR.b .nil pass0 (pa_cons (pe_ix ix_list (pv 1) (pv 2) (fun _ _ => rfl)) (pa_cons (pe_meth (pv 0) Z.cl Inp.M Inp.G (hr.mono (by decide)) Inp.b .nil pass0 (pa_cons (pv 2) pa_nil)) pa_nil)))))) pa_nil))))))), ?_⟩
  refine ⟨_, rfl, v, .ty "list", _, _, isLstD d, rfl, .ty "list", dp_ty hk, kit_lst d, _, rfl, ?_⟩
  cases cl : isLstD d with
  | false =>
    have : chosenB d (D.al 0).length (D.al 1).length = false := by cases d <;> first | rfl | cases cl
    rw [this] at q
    exact iteF (q _ (Same.refl H))
  | true =>
    obtain ⟨ds, rfl⟩ : ∃ ds, d = .list ds := by cases d <;> first | exact ⟨_, rfl⟩ | cases cl
    obtain ⟨t, vs, rfl, hS, hD⟩ : ∃ t vs, v = .ref t ∧ SqL K H t vs ∧ DpAll K H vs ds := by
      cases hk with
      | lst a b => exact ⟨_, _, rfl, a, b⟩
    have hl := dpAll_len hD
    refine iteT ⟨_, rfl, t, _, rfl, .inl hS, rfl, _, rfl, ?_⟩
    rcases two_cases ds with ⟨x, y, rfl⟩ | c
    case inr =>
      rw [chosen_no c] at q
      refine iteF' (decide_eq_false fun e => c (by injection e with e; omega)) ?_
      exact q _ (Same.refl H)
    refine iteT' (decide_eq_true (by rw [hl]; rfl)) ?_
    cases hD with
    | cons hx hD =>
    cases hD with
    | cons hy hD =>
    cases hD
    rename_i vx vy
    refine ⟨hT, rfl, ⟨_, hH _⟩, fun L hL => ?_⟩
    refine tup_turns (xs := [V.int 0, V.int 1]) (fun i H' => Same H H' ∧ H' L = some (.lst (([rowB x (D.al 0).length, rowB y (D.al 1).length].take i).map V.bl))) ⟨same_new hL _, upd_same⟩ (fun i H' _ _ => hH H') ?_ ?_
    · rintro i z H' hz' ⟨s3, h3⟩
      obtain ⟨hi, rfl⟩ := hand_at hz'
      obtain ⟨u, e, hu1, hu2, hu3⟩ : ∃ u e, ([vx, vy] : List V)[i]? = some u ∧ ([x, y] : List PyData)[i]? = some e ∧ Dp K H u e := by
        obtain rfl | rfl : i = 0 ∨ i = 1 := by omega
        · exact ⟨vx, x, rfl, rfl, hx⟩
        · exact ⟨vy, y, rfl, rfl, hy⟩
      obtain ⟨dx, a, d, hp, hA, hB⟩ := hTk.mono s3
      refine ⟨rfl, _, rfl, _, rfl, t, _, _, _, rfl, rfl, s3.seq hS, atI_nat hu1, ?_⟩
      refine ⟨_, rfl, p, dx, _, rfl, hp, flds_no _ _ (by decide +kernel) (by decide +kernel), _, rfl, p, i, D, rfl, hi, ⟨dx, a, d, hp, hA, hB⟩, ?_⟩
      refine ⟨u, e, (D.al i).length, rfl, dp_mono s3 _ _ hu3, hz _ rfl _ (List.mem_of_getElem? hu2), fun H4 s4 => ?_⟩
      have hb : [rowB x (D.al 0).length, rowB y (D.al 1).length][i]? = some (rowB e (D.al i).length) := by
        obtain rfl | rfl : i = 0 ∨ i = 1 := by omega
        · obtain rfl : x = e := by simpa using hu2
          rfl
        · obtain rfl : y = e := by simpa using hu2
          rfl
      refine ⟨_, s4 _ _ h3, ?_, same_upd (s3.trans s4) hL, by rw [upd_same, take_bl _ hb]⟩
      rw [List.length_map]
      exact Nat.lt_of_le_of_lt (List.length_take_le _ _) (Nat.lt_of_lt_of_le hi (by decide))
    · rintro H3 ⟨s3, h3⟩
      refine ⟨L, _, rfl, SqL.of h3, ?_⟩
      have e1 : chosenB (.list [x, y]) (D.al 0).length (D.al 1).length = (([rowB x (D.al 0).length, rowB y (D.al 1).length].take [V.int 0, V.int 1].length).all id) := by
        show (rowB x _ && rowB y _) = (rowB x _ && (rowB y _ && true))
        rw [Bool.and_true]
      rw [e1] at q
      exact q _ s3
abbrev nAF : List Str := ["task", "alone", "hand", "at"]
theorem sc_af : FnScope nAF ["task", "alone"] (defScope s_alone_fault) := ⟨rfl, rfl, rfl, by decide +kernel, rfl, by decide +kernel, by decide +kernel⟩
theorem ok_af {f g2 C : Addr} {fd d2 : FuncData} (F : Fun K "alone_fault" "alone_fault" s_alone_fault f fd) (T : Txt K mg) (U : TxtH K mg) (Z : TxtC K mg C)
    (Inp : MDef P w K mg base C "inputs" nInputs 4 (spInputs K C) g2 d2) : FnOk P w K mg base CX0 5 f fd ["task", "alone"] (spAloneF K C) := by
  refine F.ok sc_af (fun vs H Q E h => ?_) (fun cdv A outer s H vs Q E hr h => ?_)
  · obtain ⟨p, v, D, ch, rfl, _⟩ := h
    rfl
  obtain ⟨p, v, D, ch, rfl, hTk, hW, hR, hlen, q0⟩ := h
  obtain ⟨hT, mH, hH⟩ := U.hands
  have nd := sc_af.nd
  refine ⟨_, (pss_cons (ps_for PassesOwn.never (by rfl) (pi_tup (pe_glob (v := .ref hT) rfl mH rfl)) (pg_name (i := 2) nd rfl (Or.inl rfl))
      (pss_one (ps_for PassesOwn.never (by rfl) (pi_range1 (by rfl) T.range (pa_cons (pe_meth (pv 0) Z.cl Inp.M Inp.G (hr.mono (by decide)) Inp.b .nil pass0 (pa_cons (pv 2) pa_nil)) pa_nil)) (pg_name (i := 3) nd rfl (Or.inl rfl))
      (pss_one (ps_if (pt_cmpR op_notIn_seq (pe_ix ix_list (pe_ix ix_list (pv 1) (pv 2) (fun _ _ => rfl)) (pv 3) (fun _ _ => rfl)) (pe_ix ix_list (pe_ix ix_list (pe_fld (pv 0) rfl) (pv 2) (fun _ _ => rfl)) (pv 3) (fun _ _ => rfl)) (by rfl))
      (pss_one (ps_ret (pe_tup (pa_cons pe_str (pa_cons (pv 2) (pa_cons (pv 3) pa_nil))))))
      pss_nil)))))
    (pss_one (ps_ret pe_non))), ?_⟩
  refine ⟨hT, rfl, ⟨_, hH _⟩, for_tup (xs := [V.int 0, V.int 1]) (fun i σ H' => ∃ g1 g2, σ = [some (.ref p), some v, g1, g2] ∧ Same H H' ∧ ∀ h a, h < i → a < (D.al h).length → okA D ch h a) ⟨_, _, rfl, Same.refl H, fun h a hh => absurd hh (Nat.not_lt_zero _)⟩ (fun i σ H' _ _ => hH H') ?_ ?_⟩
  · rintro i z σ H' hz ⟨g1, g2, rfl, s1, ok1⟩
    obtain ⟨hi, rfl⟩ := hand_at hz
    obtain ⟨dx, a, d, hp, hA, hB⟩ := hTk.mono s1
    have n0 := hW.n0 i hi
    refine ⟨_, rfl, p, dx, _, rfl, hp, flds_no _ _ (by decide +kernel) (by decide +kernel), _, rfl, p, i, D, rfl, hi, ⟨dx, a, d, hp, hA, hB⟩, ?_⟩
    refine ⟨_, rfl, by omega, by omega, for_range (n := (D.al i).length) (fun j σ H2 => ∃ g2, σ = [some (.ref p), some v, some (.int (i : Int)), g2] ∧ Same H H2 ∧ ∀ a, a < j → okA D ch i a) ⟨_, rfl, s1, fun a ha => absurd ha (Nat.not_lt_zero _)⟩ ?_ ?_⟩
    · rintro j σ H2 hj ⟨g2, rfl, s2, ok2⟩
      have ej : (0 : Int) + (j : Int) = (j : Int) := by omega
      rw [ej]
      obtain ⟨t, xs, rfl, ht, ar⟩ := hR.mono (.same s2)
      obtain ⟨y, hy, r, rfl, hr'⟩ := ar.at (i := i) (y := ch i) (by
        obtain rfl | rfl : i = 0 ∨ i = 1 := by omega
        · rfl
        · rfl)
      obtain ⟨dx2, a2, d2, hp2, hA2, hB2⟩ := hTk.mono s2
      obtain ⟨t3, x0, x1, e3, ht3, hrow3⟩ := hA2.row
      obtain rfl : a2 = t3 := by injection e3
      obtain ⟨x, hx, r3, xs3, rfl, hr3, ha3⟩ := hrow3 i hi
      obtain ⟨y3, hy3, r4, rfl, hr4⟩ := ha3.at (i := j) (y := (D.al i)[j]) (List.getElem?_eq_getElem hj)
      have hcj : j < (ch i).length := by rw [hlen i hi]; exact hj
      have gc : ((ch i).map V.int)[j]? = some (.int ((ch i).getD j 0)) := by rw [List.getElem?_map, List.getD_eq_getElem?_getD, List.getElem?_eq_getElem hcj]; rfl
      refine ⟨_, rfl, _, rfl, t, _, _, _, rfl, rfl, SqL.of ht, atI_nat hy, _, rfl, r, _, _, _, rfl, rfl, SqL.of hr', atI_nat gc, ?_⟩
      refine ⟨_, rfl, p, C, dx2, _, _, rfl, hp2, Z.cl, Z.nA, flds_alone _ _, _, rfl, a2, _, _, _, rfl, rfl, SqL.of ht3, atI_nat hx, _, rfl, r3, _, _, _, rfl, rfl, SqL.of hr3, atI_nat hy3, ?_⟩
      refine ⟨r4, _, rfl, .inl (SqL.of hr4), rfl, flat_ints _, _, rfl, ?_⟩
      have eA : inV (.int ((ch i).getD j 0)) ((D.al i)[j].map V.int) = decide (okA D ch i j) := by
        rw [inV_int]
        refine decide_eq_decide.mpr ?_
        unfold okA
        rw [List.getD_eq_getElem?_getD (l := D.al i), List.getElem?_eq_getElem hj]
        rfl
      by_cases c : okA D ch i j
      · refine iteF' (by simp only [if_true]; rw [eA, decide_eq_true c]; rfl) ?_
        refine ⟨_, rfl, s2, fun a ha => ?_⟩
        rcases Nat.lt_succ_iff_lt_or_eq.mp ha with h | rfl
        · exact ok2 a h
        · exact c
      · refine iteT' (by simp only [if_true]; rw [eA, decide_eq_false c]; rfl) ?_
        refine ⟨_, rfl, _, rfl, (by show 3 ≤ sizeLine; decide), fun u hu => ?_⟩
        refine q0 (.ref u) _ (s2.trans (same_new hu _)) (.inr ⟨u, i, j, rfl, upd_same, hi, hj, c, fun h' a' hh' ha' e => ?_⟩)
        rcases e with e | ⟨rfl, e⟩
        · exact ok1 h' a' e ha'
        · exact ok2 a' e
    · rintro σ H2 ⟨g2, rfl, s2, ok2⟩
      refine ⟨_, _, rfl, s2, fun h a hh ha => ?_⟩
      rcases Nat.lt_succ_iff_lt_or_eq.mp hh with h' | rfl
      · exact ok1 h a h' ha
      · exact ok2 a ha
  · rintro σ H' ⟨g1, g2, rfl, s1, ok1⟩
    exact q0 .non H' s1 (.inl ⟨rfl, fun h a hh ha => ok1 h a hh ha⟩)
end
end TB

set_option Elab.async false
set_option maxRecDepth 100000
set_option maxHeartbeats 4000000
namespace TB
open TA PySem L2 PyProof.Rows
set_option linter.unusedVariables false
/-! boxes -/
def selO (h : Nat) (o : Int × Int) : Int := if h = 0 then o.1 else o.2
def ansB (l : List (Int × Int)) (h : Nat) (o : Int) : Bool := decide (o ∈ l.map (selO h))
theorem selO_at {h : Nat} (hh : h < 2) (o : Int × Int) : ([V.int o.1, V.int o.2] : List V)[h]? = some (.int (selO h o)) := by
  obtain rfl | rfl : h = 0 ∨ h = 1 := by omega
  · rfl
  · rfl
theorem iI_at {h : Nat} (hh : h < 2) (p : IP) : ([V.int (iI p).1, V.int (iI p).2] : List V)[h]? = some (.int ((sel h p : Nat) : Int)) := by
  obtain rfl | rfl : h = 0 ∨ h = 1 := by omega
  · rfl
  · rfl
theorem atI_one {xs : List V} {h : Nat} {v : V} (hh : h < 2) (e : xs[1 - h]? = some v) : atI xs ((1 : Int) - (h : Int)) = some v := by
  have : (1 : Int) - (h : Int) = ((1 - h : Nat) : Int) := by omega
  rw [this]
  exact atI_nat e
def oddsP (T : TD) (h a : Nat) (o : Int) (e : IP × List (Int × Int)) : Bool := decide (sel h e.1 = a) && !ansB e.2 h o
def oddsF (T : TD) (h a : Nat) (o : Int) : Option Nat := (T.bo.find? (oddsP T h a o)).map fun e => sel (1 - h) e.1
def oV : Option Nat → V
  | none => .non
  | some b => .int (b : Int)
def spAnswered (K : PySem.W.Frag) (C : Addr) : Sp := fun vs H Q _ => ∃ (p : Addr) (v : V) (h : Nat) (o : Int) (T : TD) (e : IP × List (Int × Int)), vs = [.ref p, v, .int (h : Int), .int o] ∧ h < 2 ∧ TaskAt C H p T ∧ WFS T ∧ e ∈ T.bo ∧ TpAt H v (iI e.1) ∧ ∀ H', Same H H' → Q (.bl (ansB e.2 h o)) H'
def spOdds (K : PySem.W.Frag) (C : Addr) : Sp := fun vs H Q _ => ∃ (p : Addr) (h a : Nat) (o : Int) (T : TD), vs = [.ref p, .int (h : Int), .int (a : Int), .int o] ∧ h < 2 ∧ TaskAt C H p T ∧ WFS T ∧ ∀ H', Same H H' → Q (oV (oddsF T h a o)) H'
section
variable {P : Program} {w : World} {K : PySem.W.Frag} {mg : Str → Option Value} {base : Heap}
abbrev nAnswered : List Str := ["task", "pair", "hand", "output", "outputs"]
theorem sc_answered : FnScope nAnswered ["task", "pair", "hand", "output"] (defScope s_is_answered) := ⟨rfl, rfl, rfl, by decide +kernel, rfl, by decide +kernel, by decide +kernel⟩
theorem ok_answered {f C : Addr} {fd : FuncData} (F : Fun K "is_answered" "is_answered" s_is_answered f fd) (Z : TxtC K mg C) : FnOk P w K mg base CX0 1 f fd ["task", "pair", "hand", "output"] (spAnswered K C) := by
  refine F.ok sc_answered (fun vs H Q E h => ?_) (fun cdv A outer s H vs Q E hr h => ?_)
  · obtain ⟨p, v, h, o, D, e, rfl, _⟩ := h
    rfl
  obtain ⟨p, v, h, o, D, e, rfl, hh, hTk, hW, he, hv, q⟩ := h
  have nd := sc_answered.nd
  have hu := hu_of hr
  refine ⟨_, (pss_one (ps_ret (pe_cmpR op_in_seq (pv 3) (pe_lc (own := [("outputs", 4)]) (g := (gName 4)) (tt := tYes) (te := (tOp (rIxT K) (tVar 4) (tVar 2))) rfl nd (pi_list (pe_dget hu (pe_fld (pv 0) rfl) (pv 1) (fun _ _ => rfl))) (blkOk_by (N := nAnswered) (sc := defScope s_is_answered) (by decide +kernel)) (fun _ _ _ _ _ => (by exact (pg_name (i := 4) nd rfl (Or.inl rfl)))) (fun _ _ _ _ _ => pts_nil) (fun _ _ _ _ _ => (by exact (pe_ix ix_tup (pv 4) (pv 2) (fun _ _ => rfl))))) (by rfl)))), ?_⟩
  obtain ⟨dx, a, d, hp, hA, kvs, hd, ha⟩ := hTk
  obtain ⟨t, rfl, ht⟩ := hv
  obtain ⟨lv, hlv, l, xs, rfl, hl, hx⟩ := val_at ha hW.srtN e he
  refine ⟨_, rfl, _, rfl, p, C, dx, _, _, rfl, hp, Z.cl, Z.nB, flds_both _ _, _, rfl, d, _, rfl, hlv ▸ DGet.t (k := kI e.1) hd ht, l, rfl, ⟨_, SqL.of hl⟩, fun L hL => ?_⟩
  refine list_turns (xs := xs) (fun i H' => Same H H' ∧ H' L = some (.lst (((e.2.take i).map (selO h)).map V.int))) ⟨same_new hL _, upd_same⟩ (fun i H' _ h => h.1.seq (SqL.of hl)) ?_ ?_
  · rintro i x H' hxi ⟨s1, h1⟩
    obtain ⟨oo, ho, tt, rfl, htt⟩ := hx.get hxi
    refine ⟨rfl, _, rfl, _, rfl, tt, _, _, _, rfl, rfl, SqT.of (s1 _ _ htt), atI_nat (selO_at hh oo), _, h1, ?_, same_upd s1 hL, ?_⟩
    · rw [List.length_map, List.length_map, List.length_take]
      have := (hW.lets e he).2.1
      exact Nat.lt_of_le_of_lt (Nat.le_trans (Nat.min_le_right _ _) this) (by decide)
    · rw [upd_same, take_get ho, List.map_append, List.map_append]
      rfl
  · rintro H1 ⟨s1, h1⟩
    rw [hx.len, List.take_length] at h1
    refine ⟨L, _, rfl, .inl (SqL.of h1), rfl, flat_ints _, ?_⟩
    show Q (.bl (inV (.int o) ((e.2.map (selO h)).map V.int))) H1
    rw [inV_int]
    exact q _ s1
abbrev nOdds : List Str := ["task", "hand", "at", "output", "pair"]
theorem sc_odds : FnScope nOdds ["task", "hand", "at", "output"] (defScope s_at_odds) := ⟨rfl, rfl, rfl, by decide +kernel, rfl, by decide +kernel, by decide +kernel⟩
theorem ok_odds {f g1 g2 C : Addr} {fd d1 d2 : FuncData} (F : Fun K "at_odds" "at_odds" s_at_odds f fd) (T : Txt K mg) (Z : TxtC K mg C) (WAn : Def P w K mg base "is_answered" ["task", "pair", "hand", "output"] 1 (spAnswered K C) g1 d1)
    (Prs : MDef P w K mg base C "pairs" nPairs 1 (spPairs K C) g2 d2) : FnOk P w K mg base CX0 2 f fd ["task", "hand", "at", "output"] (spOdds K C) := by
  refine F.ok sc_odds (fun vs H Q E h => ?_) (fun cdv A outer s H vs Q E hr h => ?_)
  · obtain ⟨p, h, a, o, D, rfl, _⟩ := h
    rfl
  obtain ⟨p, h, a, o, D, rfl, hh, hTk, hW, q⟩ := h
  have nd := sc_odds.nd
  refine ⟨_, (pss_cons (ps_for PassesOwn.never (by rfl) (pi_list (pe_meth0 (pv 0) Z.cl Prs.M Prs.G (hr.mono (by decide)) Prs.b .nil pass0)) (pg_name (i := 4) nd rfl (Or.inl rfl))
      (pss_one (ps_if (PW.pt (pw_and (pt_cmpR op_eq (pe_ix ix_tup (pv 4) (pv 1) (fun _ _ => rfl)) (pv 2) (nomark _)) (pw_and1 (pt_not (pt_val (pe_call WAn.G (hr.mono (by decide)) rfl WAn.m WAn.k WAn.b .nil pass0 (pa_cons (pv 0) (pa_cons (pv 4) (pa_cons (pv 1) (pa_cons (pv 3) pa_nil))))))))))
      (pss_one (ps_ret (pe_ix ix_tup (pv 4) (pe_op op_sub pe_int (pv 1)) (fun _ _ => rfl))))
      pss_nil)))
    (pss_one (ps_ret pe_non))), ?_⟩
  obtain ⟨dx, a0, d, hp, hA, hB⟩ := id hTk
  refine ⟨_, rfl, p, dx, _, rfl, hp, flds_no _ _ (by decide +kernel) (by decide +kernel), p, D, rfl, hTk, hW, fun r xs hr0 hx => ?_⟩
  have s0 := same_new hr0 (.lst xs)
  have hr1 : (upd H r (.lst xs)) r = some (.lst xs) := upd_same
  refine ⟨r, rfl, ⟨_, SqL.of hr1⟩, for_list (xs := xs) (fun i σ H' => ∃ g, σ = [some (.ref p), some (.int (h : Int)), some (.int (a : Int)), some (.int o), g] ∧ Same (upd H r (.lst xs)) H' ∧ ∀ j (hj : j < D.bo.length), j < i → oddsP D h a o D.bo[j] = false) ⟨_, rfl, Same.refl _, fun j _ h => absurd h (Nat.not_lt_zero _)⟩ (fun i σ H' _ ⟨_, _, s1, _⟩ => s1.seq (SqL.of hr1)) ?_ ?_⟩
  · rintro i x σ H' hxi ⟨g, rfl, s1, hn⟩
    obtain ⟨y, hy, tt, rfl, htt⟩ := hx.get hxi
    rw [List.getElem?_map] at hy
    obtain ⟨e, hbe, rfl⟩ := Option.map_eq_some_iff.mp hy
    have hib : i < D.bo.length := (List.getElem?_eq_some_iff.mp hbe).1
    have heq : D.bo[i] = e := (List.getElem?_eq_some_iff.mp hbe).2
    have hem := List.mem_of_getElem? hbe
    have htt1 := s1 _ _ (s0 _ _ htt)
    refine ⟨_, rfl, _, rfl, tt, _, _, _, rfl, rfl, SqT.of htt1, atI_nat (iI_at hh e.1), _, rfl, rfl, _, rfl, ?_⟩
    rw [dec_nat]
    by_cases c1 : sel h e.1 = a
    case neg =>
      refine iteF' (decide_eq_false c1) ?_
      refine iteF ⟨_, rfl, s1, fun j hj hji => ?_⟩
      rcases Nat.lt_succ_iff_lt_or_eq.mp hji with z | rfl
      · exact hn j hj z
      · rw [heq]
        unfold oddsP
        rw [decide_eq_false c1, Bool.false_and]
    refine iteT' (decide_eq_true c1) ?_
    refine ⟨_, rfl, _, rfl, _, rfl, _, rfl, p, _, h, o, D, e, rfl, hh, hTk.mono (s0.trans s1), hW, hem, ⟨tt, rfl, htt1⟩, fun H2 s2 => ⟨_, rfl, ?_⟩⟩
    cases c2 : ansB e.2 h o with
    | true =>
      refine iteF ⟨_, rfl, s1.trans s2, fun j hj hji => ?_⟩
      rcases Nat.lt_succ_iff_lt_or_eq.mp hji with z | rfl
      · exact hn j hj z
      · rw [heq]
        unfold oddsP
        rw [c2]
        exact Bool.and_false _
    | false =>
      refine iteT ⟨_, rfl, _, rfl, _, _, rfl, rfl, tt, _, _, _, rfl, rfl, SqT.of (s2 _ _ htt1), atI_one hh (iI_at (by omega) e.1), ?_⟩
      have ef : oddsF D h a o = some (sel (1 - h) e.1) := by
        have z : D.bo.find? (oddsP D h a o) = some e := by
          refine List.find?_eq_some_iff_getElem.mpr ⟨?_, i, hib, heq, fun j hji => ?_⟩
          · unfold oddsP
            rw [decide_eq_true c1, c2]
            rfl
          · rw [hn j (by omega) hji]
            rfl
        unfold oddsF
        rw [z]
        rfl
      have z := q H2 ((s0.trans s1).trans s2)
      rw [ef] at z
      exact z
  · rintro σ H' ⟨g, rfl, s1, hn⟩
    have ef : oddsF D h a o = none := by
      have z : D.bo.find? (oddsP D h a o) = none := by
        rw [List.find?_eq_none]
        intro e he
        obtain ⟨j, hj⟩ := List.getElem?_of_mem he
        obtain ⟨hj1, hj2⟩ := List.getElem?_eq_some_iff.mp hj
        have := hn j hj1 (by rw [hx.len, List.length_map]; exact hj1)
        rw [hj2] at this
        rw [this]
        exact Bool.false_ne_true
      unfold oddsF
      rw [z]
      rfl
    have z := q H' (s0.trans s1)
    rw [ef] at z
    exact z
end
end TB

set_option Elab.async false
set_option maxRecDepth 100000
set_option maxHeartbeats 4000000
namespace TB
open TA PySem L2 PyProof.Rows
set_option linter.unusedVariables false
def wonO (ch : Nat → List Int) (h : Nat) (p : IP) : Int := (ch (1 - h)).getD (sel (1 - h) p) 0
def ansL (ch : Nat → List Int) (h : Nat) (e : IP × List (Int × Int)) : List Int := (e.2.filter fun o => decide (selO (1 - h) o = wonO ch h e.1)).map (selO h)
def ansO (ch : Nat → List Int) (h : Nat) (e : IP × List (Int × Int)) : Int := (ansL ch h e).headD 0
def ansKV (ch : Nat → List Int) (h : Nat) (bo : BD) : List (List Key × V) := bo.map fun e => (kI e.1, V.int (ansO ch h e))
def spAnsTo (K : PySem.W.Frag) (C : Addr) : Sp := fun vs H Q _ => ∃ (p : Addr) (h : Nat) (v : V) (T : TD) (ch : Nat → List Int), vs = [.ref p, .int (h : Int), v] ∧ h < 2 ∧ TaskAt C H p T ∧ WFS T ∧ RowsAt H v [ch 0, ch 1] ∧ (∀ h, h < 2 → (ch h).length = (T.al h).length) ∧
  (∀ e ∈ T.bo, ansL ch h e ≠ []) ∧ ∀ (r : Addr) (H' : Hp), Same H H' → H r = none → H' r = some (.dT (ansKV ch h T.bo)) → Q (.ref r) H'
theorem filt_snoc {α : Type} (p : α → Bool) (l : List α) (x : α) : (l ++ [x]).filter p = if p x = true then l.filter p ++ [x] else l.filter p := by
  rw [List.filter_append]
  by_cases c : p x = true
  · rw [if_pos c, List.filter_cons_of_pos c]
    rfl
  · rw [if_neg c, List.filter_cons_of_neg c]
    exact List.append_nil _
section
variable {P : Program} {w : World} {K : PySem.W.Frag} {mg : Str → Option Value} {base : Heap}
abbrev nAnsTo : List Str := ["task", "hand", "alone", "answers", "pair", "won", "outputs"]
theorem sc_ansto : FnScope nAnsTo ["task", "hand", "alone"] (defScope s_answers_to) := ⟨rfl, rfl, rfl, by decide +kernel, rfl, by decide +kernel, by decide +kernel⟩
theorem ok_ansto {f g2 C : Addr} {fd d2 : FuncData} (F : Fun K "answers_to" "answers_to" s_answers_to f fd) (T : Txt K mg) (Z : TxtC K mg C)
    (Prs : MDef P w K mg base C "pairs" nPairs 1 (spPairs K C) g2 d2) : FnOk P w K mg base CX0 2 f fd ["task", "hand", "alone"] (spAnsTo K C) := by
  refine F.ok sc_ansto (fun vs H Q E h => ?_) (fun cdv A outer s H vs Q E hr h => ?_)
  · obtain ⟨p, h, v, D, ch, rfl, _⟩ := h
    rfl
  obtain ⟨p, h, v, D, ch, rfl, hh, hTk, hW, hR, hlen, hne, q⟩ := h
  have nd := sc_ansto.nd
  have hu := hu_of hr
  refine ⟨_, (pss_cons (ps_set (i := 3) nd rfl (Or.inl rfl) pe_dnewT)
    (pss_cons (ps_for PassesOwn.never (by rfl) (pi_list (pe_meth0 (pv 0) Z.cl Prs.M Prs.G (hr.mono (by decide)) Prs.b .nil pass0)) (pg_name (i := 4) nd rfl (Or.inl rfl))
      (pss_cons (ps_set (i := 5) nd rfl (Or.inr rfl) (pe_ix ix_list (pe_ix ix_list (pv 2) (pe_op op_sub pe_int (pv 1)) (fun _ _ => rfl)) (pe_ix ix_tup (pv 4) (pe_op op_sub pe_int (pv 1)) (fun _ _ => rfl)) (fun _ _ => rfl)))
    (pss_one (ps_dput hu (pv 3) (pv 4) (pe_ix ix_list (pe_lc (own := [("outputs", 6)]) (g := (gName 6)) (tt := (tTest (tOp rEq (tOp (rIxT K) (tVar 6) (tOp (rI0 fun i j => .int (i - j)) (tC (.int 1)) (tVar 1))) (tVar 5)))) (te := (tOp (rIxT K) (tVar 6) (tVar 1))) rfl nd (pi_list (pe_dget hu (pe_fld (pv 0) rfl) (pv 4) (fun _ _ => rfl))) (blkOk_by (N := nAnsTo) (sc := defScope s_answers_to) (by decide +kernel)) (fun _ _ _ _ _ => (by exact (pg_name (i := 6) nd rfl (Or.inl rfl)))) (fun _ _ _ _ _ => pts_one (by exact (pt_cmpR op_eq (pe_ix ix_tup (pv 6) (pe_op op_sub pe_int (pv 1)) (fun _ _ => rfl)) (pv 5) (nomark _)))) (fun _ _ _ _ _ => (by exact (pe_ix ix_tup (pv 6) (pv 1) (fun _ _ => rfl))))) pe_int (fun _ _ => rfl)) rfl))))
    (pss_one (ps_ret (pv 3))))), ?_⟩
  intro L hL
  have s0 := same_new hL (.dT [])
  obtain ⟨dx, a0, d, hp, hA, hB⟩ := hTk.mono s0
  refine ⟨_, rfl, p, dx, _, rfl, hp, flds_no _ _ (by decide +kernel) (by decide +kernel), p, D, rfl, ⟨dx, a0, d, hp, hA, hB⟩, hW, fun r xs hr0 hx => ?_⟩
  have s1 := same_new hr0 (.lst xs)
  have hr1 : (upd (upd H L (.dT [])) r (.lst xs)) r = some (.lst xs) := upd_same
  have hrH : H r = none := none_of_same s0 hr0
  have hLr : L ≠ r := ne_of_none upd_same hr0
  have s01 := s0.trans s1
  refine ⟨r, rfl, ⟨_, SqL.of hr1⟩, for_list (xs := xs) (fun i σ H' => ∃ g1 g2 g3, σ = [some (.ref p), some (.int (h : Int)), some v, some (.ref L), g1, g2, g3] ∧ Same H H' ∧ H' r = some (.lst xs) ∧ A2 (TpAt H') xs (D.bo.map fun e => iI e.1) ∧ H' L = some (.dT (ansKV ch h (D.bo.take i)))) ⟨_, _, _, rfl, s01, hr1, hx.imp fun _ _ r => r.mono (.same s1), s1 _ _ upd_same⟩ (fun i σ H' _ ⟨_, _, _, _, _, e, _⟩ => SqL.of e) ?_ ?_⟩
  · rintro i x σ H' hxi ⟨g1, g2, g3, rfl, sH, hrr, hxx, hLL⟩
    obtain ⟨y, hy, tt, rfl, htt⟩ := hxx.get hxi
    rw [List.getElem?_map] at hy
    obtain ⟨e, hbe, rfl⟩ := Option.map_eq_some_iff.mp hy
    have hib : i < D.bo.length := (List.getElem?_eq_some_iff.mp hbe).1
    have hem := List.mem_of_getElem? hbe
    obtain ⟨rg0, rg1⟩ := hW.rng e hem
    -- won
    obtain ⟨t, ys, rfl, ht, ar⟩ := hR.mono (.same sH)
    have h1 : 1 - h < 2 := by omega
    obtain ⟨z, hz, rr, rfl, hrow⟩ := ar.at (i := 1 - h) (y := ch (1 - h)) (by
      obtain rfl | rfl : h = 0 ∨ h = 1 := by omega
      · rfl
      · rfl)
    have hsl : sel (1 - h) e.1 < (ch (1 - h)).length := by
      rw [hlen _ h1]
      obtain rfl | rfl : h = 0 ∨ h = 1 := by omega
      · exact rg1
      · exact rg0
    have gw : ((ch (1 - h)).map V.int)[sel (1 - h) e.1]? = some (.int (wonO ch h e.1)) := by
      unfold wonO
      rw [List.getElem?_map, List.getD_eq_getElem?_getD, List.getElem?_eq_getElem hsl]
      rfl
    refine ⟨_, rfl, _, rfl, _, _, rfl, rfl, t, _, _, _, rfl, rfl, SqL.of ht, atI_one hh hz, _, rfl, _, rfl, _, _, rfl, rfl, tt, _, _, _, rfl, rfl, SqT.of htt, atI_one hh (iI_at h1 e.1), rr, _, _, _, rfl, rfl, SqL.of hrow, atI_nat gw, ?_⟩
    -- answers[pair]
    obtain ⟨dx, a0, d, hp, hA, kvs, hd, ha⟩ := hTk.mono sH
    obtain ⟨lv, hlv, l, zs, rfl, hl, hzs⟩ := val_at ha hW.srtN e hem
    refine ⟨_, rfl, p, C, dx, _, _, rfl, hp, Z.cl, Z.nB, flds_both _ _, _, rfl, d, _, rfl, hlv ▸ DGet.t (k := kI e.1) hd htt, l, rfl, ⟨_, SqL.of hl⟩, fun M hM => ?_⟩
    refine list_turns (xs := zs) (fun j H2 => Same H' H2 ∧ H2 M = some (.lst ((((e.2.take j).filter fun o => decide (selO (1 - h) o = wonO ch h e.1)).map (selO h)).map V.int))) ⟨same_new hM _, upd_same⟩ (fun j H2 _ h => h.1.seq (SqL.of hl)) ?_ ?_
    · rintro j z H2 hzj ⟨s2, h2⟩
      obtain ⟨oo, ho, to, rfl, hto⟩ := hzs.get hzj
      have hto2 := s2 _ _ hto
      refine ⟨rfl, _, rfl, _, rfl, _, _, rfl, rfl, to, _, _, _, rfl, rfl, SqT.of hto2, atI_one hh (selO_at h1 oo), _, rfl, rfl, _, rfl, ?_⟩
      by_cases c : selO (1 - h) oo = wonO ch h e.1
      · refine iteT' (decide_eq_true (by rw [c])) ?_
        refine ⟨_, rfl, _, rfl, to, _, _, _, rfl, rfl, SqT.of hto2, atI_nat (selO_at hh oo), _, h2, ?_, same_upd s2 hM, ?_⟩
        · rw [List.length_map, List.length_map]
          refine Nat.lt_of_le_of_lt (List.length_filter_le _ _) ?_
          rw [List.length_take]
          have := (hW.lets e hem).2.1
          exact Nat.lt_of_le_of_lt (Nat.le_trans (Nat.min_le_right _ _) this) (by decide)
        · rw [upd_same, take_get ho, filt_snoc, if_pos (decide_eq_true c), List.map_append, List.map_append]
          rfl
      · refine iteF' (decide_eq_false fun q => c (by injection q)) ?_
        refine ⟨s2, ?_⟩
        rw [take_get ho, filt_snoc, if_neg (by rw [decide_eq_false c]; exact Bool.false_ne_true)]
        exact h2
    · rintro H2 ⟨s2, h2⟩
      rw [hzs.len, List.take_length] at h2
      have h2 : H2 M = some (.lst ((ansL ch h e).map V.int)) := h2
      have g0 : ((ansL ch h e).map V.int)[0]? = some (.int (ansO ch h e)) := by
        have := hne e hem
        unfold ansO
        cases c : ansL ch h e with
        | nil => exact absurd c this
        | cons x r => rfl
      refine ⟨M, _, _, _, rfl, rfl, SqL.of h2, atI_nat (j := 0) g0, ?_⟩
      have hLn : ansKV ch h (D.bo.take (i + 1)) = putK (ansKV ch h (D.bo.take i)) (kI e.1) (.int (ansO ch h e)) := by
        have hvn : valV (ansKV ch h (D.bo.take i)) (kI e.1) = none := valV_noneP fun kv hkv c => by
          obtain ⟨e', he', rfl⟩ := List.mem_map.mp hkv
          have c : kI e'.1 = kI e.1 := c
          have c := kI_inj c
          obtain ⟨j, hj⟩ := List.getElem?_of_mem he'
          have hjl : j < i := by
            have := (List.getElem?_eq_some_iff.mp hj).1
            rw [List.length_take] at this
            omega
          rw [List.getElem?_take_of_lt hjl] at hj
          have sr := List.pairwise_iff_getElem.mp hW.srtN j i (by rw [List.length_map]; omega) (by rw [List.length_map]; exact hib) hjl
          rw [List.getElem_map, List.getElem_map, (List.getElem?_eq_some_iff.mp hj).2, (List.getElem?_eq_some_iff.mp hbe).2] at sr
          exact ltN_ne sr c
        rw [putK_new _ hvn, take_get hbe]
        unfold ansKV
        rw [List.map_append]
        rfl
      have hLL2 := s2 _ _ hLL
      refine ⟨_, rfl, _, rfl, L, _, rfl, DPut.t (k := kI e.1) hLL2 (s2 _ _ htt) ?_, ?_⟩
      · unfold ansKV
        rw [List.length_map, List.length_take]
        have := hW.many
        exact Nat.lt_of_le_of_lt (Nat.le_trans (Nat.min_le_right _ _) this) (by decide)
      refine ⟨_, _, _, rfl, same_upd (sH.trans s2) hL, by rw [upd_ne (Ne.symm hLr)]; exact s2 _ _ hrr, hxx.imp fun _ _ r => r.mono ((Kp.same s2).trans (.put hLL2 nf_dT)), ?_⟩
      rw [upd_same, hLn]
  · rintro σ H' ⟨g1, g2, g3, rfl, sH, hrr, hxx, hLL⟩
    rw [hx.len, List.length_map, List.take_length] at hLL
    exact ⟨_, rfl, q L H' sH hL hLL⟩
end
end TB

set_option Elab.async false
set_option maxRecDepth 100000
set_option maxHeartbeats 4000000
namespace TB
open TA PySem L2 PyProof.Rows
set_option linter.unusedVariables false
def okS (T : TD) (h a : Nat) (o : Int) : Bool := (oddsF T h a o).isNone
def canB (T : TD) (h a : Nat) : Bool := ((T.al h).getD a []).any (okS T h a)
theorem okS_iff {T : TD} {h a : Nat} {o : Int} : okS T h a o = true ↔ ∀ e ∈ T.bo, sel h e.1 = a → ansB e.2 h o = true := by
  unfold okS oddsF
  rw [Option.isNone_map, Option.isNone_iff_eq_none, List.find?_eq_none]
  unfold oddsP
  constructor
  · intro q e he hs
    have := q e he
    rw [decide_eq_true hs, Bool.true_and] at this
    simpa using this
  · intro q e he c
    obtain ⟨c1, c2⟩ := Bool.and_eq_true_iff.mp c
    rw [q e he (of_decide_eq_true c1)] at c2
    cases c2
theorem inV_non {row : List Int} {T : TD} {h a : Nat} : inV .non (row.map fun o => oV (oddsF T h a o)) = row.any (okS T h a) := by
  induction row with
  | nil => rfl
  | cons x r ih =>
    show (eqV (oV (oddsF T h a x)) .non || inV .non (r.map fun o => oV (oddsF T h a o))) = (okS T h a x || r.any (okS T h a))
    rw [ih]
    unfold okS
    cases oddsF T h a x with
    | none => rfl
    | some b => rfl
theorem flat_oV {row : List Int} {T : TD} {h a : Nat} : (row.map fun o => oV (oddsF T h a o)).all flatV = true := by
  rw [List.all_eq_true]
  intro v hv
  obtain ⟨x, _, rfl⟩ := List.mem_map.mp hv
  cases oddsF T h a x with
  | none => rfl
  | some b => rfl
theorem first_any {p : Int → Bool} : ∀ {row : List Int}, row.any p = true → ∃ (j : Nat) (o : Int), row[j]? = some o ∧ p o = true ∧ ∀ (m : Nat) (o' : Int), m < j → row[m]? = some o' → p o' = false
  | [], h => by cases h
  | x :: r, h => by
    cases c : p x with
    | true => exact ⟨0, x, rfl, c, fun m o' hm => absurd hm (Nat.not_lt_zero _)⟩
    | false =>
      rw [List.any_cons, c, Bool.false_or] at h
      obtain ⟨j, o, h1, h2, h3⟩ := first_any h
      refine ⟨j + 1, o, h1, h2, fun m o' hm e => ?_⟩
      cases m with
      | zero =>
        obtain rfl : x = o' := by simpa using e
        exact c
      | succ m => exact h3 m o' (by omega) (by simpa using e)
theorem find_first {p : Int → Bool} : ∀ {row : List Int} {m : Nat} {o : Int}, row[m]? = some o → p o = true → (∀ (m' : Nat) (o' : Int), m' < m → row[m']? = some o' → p o' = false) → row.find? p = some o
  | [], _, _, h, _, _ => by simp at h
  | x :: r, 0, o, h, hp, _ => by
    obtain rfl : x = o := by simpa using h
    rw [List.find?_cons_of_pos hp]
  | x :: r, m + 1, o, h, hp, hm => by
    have hx : p x = false := hm 0 x (Nat.succ_pos _) rfl
    rw [List.find?_cons_of_neg (by rw [hx]; decide)]
    exact find_first (m := m) (by simpa using h) hp fun m' o' h1 h2 => hm (m' + 1) o' (by omega) (by simpa using h2)
def goodS (T : TD) (h a : Nat) (o : Int) : Prop := o ∈ (T.al h).getD a [] ∧ okS T h a o = true ∧ ((T.al h).getD a []).find? (okS T h a) = some o
theorem ansL_ne {T : TD} (W : WFS T) {ch : Nat → List Int} (hl : ∀ h, h < 2 → (ch h).length = (T.al h).length) (hg : ∀ h a, h < 2 → a < (T.al h).length → goodS T h a ((ch h).getD a 0)) {h : Nat} (hh : h < 2) : ∀ e ∈ T.bo, ansL ch h e ≠ [] := by
  intro e he c
  have hr : sel (1 - h) e.1 < (T.al (1 - h)).length := by
    obtain ⟨r0, r1⟩ := W.rng e he
    obtain rfl | rfl : h = 0 ∨ h = 1 := by omega
    · exact r1
    · exact r0
  have g := okS_iff.mp (hg (1 - h) _ (by omega) hr).2.1 e he rfl
  have m := of_decide_eq_true (show decide (_ ∈ _) = true from g)
  obtain ⟨o, ho, eo⟩ := List.mem_map.mp m
  have : o ∈ e.2.filter fun o => decide (selO (1 - h) o = wonO ch h e.1) := List.mem_filter.mpr ⟨ho, decide_eq_true eo⟩
  have z : selO h o ∈ ansL ch h e := List.mem_map.mpr ⟨o, this, rfl⟩
  rw [c] at z
  cases z
/-- what boxed tells where there is a protocol -/
structure BxAt (H H' : Hp) (r : Addr) (T : TD) (ch : Nat → List Int) (t al an r0 r1 d0 d1 : Addr) : Prop where
  h_r : H' r = some (.tup [.str "boxed", .ref t])
  h_t : H' t = some (.tup [.ref al, .ref an])
  h_al : H' al = some (.lst [.ref r0, .ref r1])
  h_r0 : H' r0 = some (.lst ((ch 0).map .int))
  h_r1 : H' r1 = some (.lst ((ch 1).map .int))
  h_an : H' an = some (.lst [.ref d0, .ref d1])
  h_d0 : H' d0 = some (.dT (ansKV ch 0 T.bo))
  h_d1 : H' d1 = some (.dT (ansKV ch 1 T.bo))
  f0 : H r0 = none
  f1 : H d1 = none
  f2 : H d0 = none
def spBoxed (K : PySem.W.Frag) (C : Addr) : Sp := fun vs H Q _ => ∃ (p : Addr) (T : TD), vs = [.ref p] ∧ TaskAt C H p T ∧ WFS T ∧
  (∀ H' r ch t al an r0 r1 d0 d1, Same H H' → BxAt H H' r T ch t al an r0 r1 d0 d1 → (∀ h, h < 2 → (ch h).length = (T.al h).length) → (∀ h a, h < 2 → a < (T.al h).length → goodS T h a ((ch h).getD a 0)) → Q (.ref r) H') ∧
  (∀ (H' : Hp) (r t l : Addr) (h a : Nat), Same H H' → H' r = some (.tup [.str "bar", .ref t]) → H' t = some (.tup [.int (h : Int), .int (a : Int), .ref l]) → H' l = some (.lst (((T.al h).getD a []).map fun o => oV (oddsF T h a o))) → H l = none → h < 2 → a < (T.al h).length → canB T h a = false → Q (.ref r) H')
section
variable {P : Program} {w : World} {K : PySem.W.Frag} {mg : Str → Option Value} {base : Heap}
abbrev nBoxed : List Str := ["task", "alone", "hand", "at", "outputs", "others", "output"]
theorem sc_boxed : FnScope nBoxed ["task"] (defScope s_boxed) := ⟨rfl, rfl, rfl, by decide +kernel, rfl, by decide +kernel, by decide +kernel⟩
theorem ok_boxed {f g1 g2 g3 C : Addr} {fd d1 d2 d3 : FuncData} (F : Fun K "boxed" "boxed" s_boxed f fd) (T : Txt K mg) (U : TxtH K mg) (Z : TxtC K mg C) (WOd : Def P w K mg base "at_odds" ["task", "hand", "at", "output"] 2 (spOdds K C) g1 d1)
    (WTo : Def P w K mg base "answers_to" ["task", "hand", "alone"] 2 (spAnsTo K C) g2 d2) (Inp : MDef P w K mg base C "inputs" nInputs 4 (spInputs K C) g3 d3) : FnOk P w K mg base CX0 5 f fd ["task"] (spBoxed K C) := by
  refine F.ok sc_boxed (fun vs H Q E h => ?_) (fun cdv A outer s H vs Q E hr h => ?_)
  · obtain ⟨p, D, rfl, _⟩ := h
    rfl
  obtain ⟨p, D, rfl, hTk, hW, qA, qB⟩ := h
  obtain ⟨hT, mH, hH⟩ := U.hands
  have nd := sc_boxed.nd
  refine ⟨_, (pss_cons (ps_set (i := 1) nd rfl (Or.inl rfl) (pe_lst (pa_cons (pe_lst pa_nil) (pa_cons (pe_lst pa_nil) pa_nil))))
    (pss_cons (ps_for PassesOwn.never (by rfl) (pi_tup (pe_glob (v := .ref hT) rfl mH rfl)) (pg_name (i := 2) nd rfl (Or.inr rfl))
      (pss_one (ps_for PassesOwn.never (by rfl) (pi_range1 (by rfl) T.range (pa_cons (pe_meth (pv 0) Z.cl Inp.M Inp.G (hr.mono (by decide)) Inp.b .nil pass0 (pa_cons (pv 2) pa_nil)) pa_nil)) (pg_name (i := 3) nd rfl (Or.inr rfl))
      (pss_cons (ps_set (i := 4) nd rfl (Or.inl rfl) (pe_ix ix_list (pe_ix ix_list (pe_fld (pv 0) rfl) (pv 2) (fun _ _ => rfl)) (pv 3) (fun _ _ => rfl)))
    (pss_cons (ps_setLc (i := 5) (own := [("output", 6)]) (g := (gName 6)) (tt := tYes) (te := (tCall (spOdds K C) [] E0 (tCons (tVar 0) (tCons (tVar 2) (tCons (tVar 3) (tCons (tVar 6) tNil)))))) rfl nd rfl rfl (sw_true rfl rfl rfl (by decide +kernel)) (pi_list (pv 4)) (blkOk_by (N := nBoxed) (sc := defScope s_boxed) (by decide +kernel)) (fun _ _ _ _ _ => (by exact (pg_name (i := 6) nd rfl (Or.inl rfl)))) (fun _ _ _ _ _ => pts_nil) (fun _ _ _ _ _ => (by exact (pe_call WOd.G (hr.mono (by decide)) rfl WOd.m WOd.k WOd.b .nil pass0 (pa_cons (pv 0) (pa_cons (pv 2) (pa_cons (pv 3) (pa_cons (pv 6) pa_nil))))))))
    (pss_cons (ps_if (pt_cmpR op_notIn_seq pe_non (pv 5) (by rfl))
      (pss_one (ps_ret (pe_tup (pa_cons pe_str (pa_cons (pe_tup (pa_cons (pv 2) (pa_cons (pv 3) (pa_cons (pv 5) pa_nil)))) pa_nil)))))
      pss_nil)
    (pss_one (ps_expr (pe_bm PySem.F.plainAttrs_list PySem.F.slot_list_append PySem.F.type_list_append mt_append (pe_ix ix_list (pv 1) (pv 2) (fun _ _ => rfl)) (pa_cons (pe_ix ix_list (pv 4) (pe_bm PySem.F.plainAttrs_list PySem.F.slot_list_index PySem.F.type_list_index mt_index (pv 5) (pa_cons pe_non pa_nil)) (fun _ _ => rfl)) pa_nil))))))))))
    (pss_one (ps_ret (pe_tup (pa_cons pe_str (pa_cons (pe_tup (pa_cons (pv 1) (pa_cons (pe_lst (pa_cons (pe_call WTo.G (hr.mono (by decide)) rfl WTo.m WTo.k WTo.b .nil pass0 (pa_cons (pv 0) (pa_cons pe_int (pa_cons (pv 1) pa_nil)))) (pa_cons (pe_call WTo.G (hr.mono (by decide)) rfl WTo.m WTo.k WTo.b .nil pass0 (pa_cons (pv 0) (pa_cons pe_int (pa_cons (pv 1) pa_nil)))) pa_nil))) pa_nil))) pa_nil))))))), ?_⟩
  refine ⟨(by show 0 ≤ sizeLine; decide), fun A0 h0 => ⟨(by show 0 ≤ sizeLine; decide), fun A1 h1 => ⟨(by show 2 ≤ sizeLine; decide), fun A2' h2 => ?_⟩⟩⟩
  have s1 := same_new h0 (.lst [])
  have s2 := same_new h1 (.lst [])
  have s3 := same_new h2 (.lst [V.ref A0, V.ref A1])
  have n01 : A0 ≠ A1 := ne_of_none upd_same h1
  have n02 : A0 ≠ A2' := ne_of_none (s2 _ _ upd_same) h2
  have n12 : A1 ≠ A2' := ne_of_none upd_same h2
  have f1 : H A1 = none := none_of_same s1 h1
  have f2 : H A2' = none := none_of_same (s1.trans s2) h2
  let Af : Nat → Addr := fun h => if h = 0 then A0 else A1
  have Af0 : Af 0 = A0 := rfl
  have Af1 : Af 1 = A1 := rfl
  have nAf : ∀ h, h < 2 → Af h ≠ A2' ∧ H (Af h) = none := fun h hh => by
    obtain rfl | rfl : h = 0 ∨ h = 1 := by omega
    · exact ⟨n02, h0⟩
    · exact ⟨n12, f1⟩
  have dAf : ∀ h h', h < 2 → h' < 2 → h ≠ h' → Af h ≠ Af h' := fun h h' a b c => by
    obtain rfl | rfl : h = 0 ∨ h = 1 := by omega
    · obtain rfl : h' = 1 := by omega
      exact n01
    · obtain rfl : h' = 0 := by omega
      exact Ne.symm n01
  have hAat : ∀ h, h < 2 → ([V.ref A0, V.ref A1] : List V)[h]? = some (.ref (Af h)) := fun h hh => by
    obtain rfl | rfl : h = 0 ∨ h = 1 := by omega
    · rfl
    · rfl
  refine ⟨hT, rfl, ⟨_, hH _⟩, for_tup (xs := [V.int 0, V.int 1]) (fun i σ H' => ∃ g2 g3 g4 g5 g6 cs, σ = [some (.ref p), some (.ref A2'), g2, g3, g4, g5, g6] ∧ Same H H' ∧ H' A2' = some (.lst [.ref A0, .ref A1]) ∧ (∀ h, h < 2 → H' (Af h) = some (.lst ((cs h).map V.int))) ∧
    (∀ h, h < 2 → (cs h).length = if h < i then (D.al h).length else 0) ∧ ∀ h a, h < 2 → a < (cs h).length → goodS D h a ((cs h).getD a 0)) ⟨_, _, _, _, _, fun _ => [], rfl, (s1.trans s2).trans s3, upd_same, ?_, fun h hh => rfl, fun h a _ ha => absurd ha (Nat.not_lt_zero _)⟩ (fun i σ H' _ _ => hH H') ?_ ?_⟩
  · intro h hh
    obtain rfl | rfl : h = 0 ∨ h = 1 := by omega
    · exact s3 _ _ (s2 _ _ upd_same)
    · exact s3 _ _ upd_same
  · rintro i z σ H' hz ⟨g2, g3, g4, g5, g6, cs, rfl, sH, hA2, hAf, hln, hgd⟩
    obtain ⟨hi, rfl⟩ := hand_at hz
    obtain ⟨dx, a, d, hp, hA, hB⟩ := hTk.mono sH
    have n0 := hW.n0 i hi
    refine ⟨_, rfl, p, dx, _, rfl, hp, flds_no _ _ (by decide +kernel) (by decide +kernel), _, rfl, p, i, D, rfl, hi, ⟨dx, a, d, hp, hA, hB⟩, ?_⟩
    refine ⟨_, rfl, by omega, by omega, for_range (n := (D.al i).length) (fun j σ H2 => ∃ g3 g4 g5 g6 cs, σ = [some (.ref p), some (.ref A2'), some (.int (i : Int)), g3, g4, g5, g6] ∧ Same H H2 ∧ H2 A2' = some (.lst [.ref A0, .ref A1]) ∧ (∀ h, h < 2 → H2 (Af h) = some (.lst ((cs h).map V.int))) ∧
      (∀ h, h < 2 → (cs h).length = if h < i then (D.al h).length else if h = i then j else 0) ∧ ∀ h a, h < 2 → a < (cs h).length → goodS D h a ((cs h).getD a 0)) ⟨_, _, _, _, cs, rfl, sH, hA2, hAf, fun h hh => ?_, hgd⟩ ?_ ?_⟩
    · rw [hln h hh]
      by_cases c : h < i
      · rw [if_pos c, if_pos c]
      · rw [if_neg c, if_neg c]
        split <;> rfl
    · clear hln hgd hAf hA2 hA hB hp
      rintro j σ H2 hj ⟨g3, g4, g5, g6, cs, rfl, sH2, hA2, hAf, hln, hgd⟩
      have ej : (0 : Int) + (j : Int) = (j : Int) := by omega
      rw [ej]
      obtain ⟨dx2, a2, d2, hp2, hA2t, hB2⟩ := hTk.mono sH2
      obtain ⟨t3, x0, x1, e3, ht3, hrow3⟩ := hA2t.row
      obtain rfl : a2 = t3 := by injection e3
      obtain ⟨x, hx, r3, xs3, rfl, hr3, ha3⟩ := hrow3 i hi
      have ejj : (D.al i)[j]? = some (D.al i)[j] := List.getElem?_eq_getElem hj
      obtain ⟨y3, hy3, r4, rfl, hr4⟩ := ha3.at (i := j) (y := (D.al i)[j]) ejj
      have eg : (D.al i).getD j [] = (D.al i)[j] := by rw [List.getD_eq_getElem?_getD, ejj]; rfl
      have hrl : (D.al i)[j].length ≤ 60 := (hW.row i hi _ (List.mem_of_getElem? ejj)).2.1
      generalize hrw : (D.al i)[j] = row at hr4 eg hrl
      refine ⟨_, rfl, p, C, dx2, _, _, rfl, hp2, Z.cl, Z.nA, flds_alone _ _, _, rfl, a2, _, _, _, rfl, rfl, SqL.of ht3, atI_nat hx, _, rfl, r3, _, _, _, rfl, rfl, SqL.of hr3, atI_nat hy3, ?_⟩
      refine ⟨_, rfl, r4, rfl, ⟨_, SqL.of hr4⟩, fun L hL => ?_⟩
      refine list_turns (xs := row.map V.int) (fun k H3 => Same H2 H3 ∧ H3 L = some (.lst ((row.take k).map fun o => oV (oddsF D i j o)))) ⟨same_new hL _, upd_same⟩ (fun k H3 _ h => h.1.seq (SqL.of hr4)) ?_ ?_
      · rintro k z H3 hk ⟨s4, h4⟩
        obtain ⟨o, ho, rfl⟩ : ∃ o, row[k]? = some o ∧ z = .int o := by
          rw [List.getElem?_map] at hk
          obtain ⟨o, h1, h2⟩ := Option.map_eq_some_iff.mp hk
          exact ⟨o, h1, h2.symm⟩
        refine ⟨rfl, _, rfl, _, rfl, _, rfl, _, rfl, p, i, j, o, D, rfl, hi, hTk.mono (sH2.trans s4), hW, fun H4 s5 => ⟨_, s5 _ _ h4, ?_, same_upd (s4.trans s5) hL, ?_⟩⟩
        · rw [List.length_map, List.length_take]
          exact Nat.lt_of_le_of_lt (Nat.le_trans (Nat.min_le_right _ _) hrl) (by decide)
        · rw [upd_same, take_get ho, List.map_append]
          rfl
      · rintro H3 ⟨s4, h4⟩
        rw [List.length_map, List.take_length] at h4
        have hA2' := s4 _ _ hA2
        have hr4' := s4 _ _ hr4
        refine ⟨_, rfl, L, _, rfl, .inl (SqL.of h4), rfl, flat_oV, _, rfl, ?_⟩
        simp only [if_true]
        rw [inV_non]
        cases c : row.any (okS D i j) with
        | false =>
          refine iteT ⟨_, rfl, _, rfl, _, rfl, (by show 3 ≤ sizeLine; decide), fun t ht => ⟨(by show 2 ≤ sizeLine; decide), fun r hr => ?_⟩⟩
          have s5 := same_new ht (.tup [V.int (i : Int), V.int (j : Int), V.ref L])
          have s6 := same_new hr (.tup [V.str "bar", V.ref t])
          refine qB _ r t L i j (((sH2.trans s4).trans s5).trans s6) upd_same (s6 _ _ upd_same) ?_ (none_of_same sH2 hL) hi hj ?_
          · rw [eg]; exact s6 _ _ (s5 _ _ h4)
          · unfold canB
            rw [eg]; exact c
        | true =>
          obtain ⟨m, o, hm, hpo, hmin⟩ := first_any c
          have hiA := s4 _ _ (hAf i hi)
          refine iteF ⟨_, rfl, _, rfl, A2', _, _, _, rfl, rfl, SqL.of hA2', atI_nat (hAat i hi), .inl ⟨rfl, _, SqL.of hiA⟩, _, rfl, _, rfl, .inl ⟨rfl, _, SqL.of h4⟩, L, _, _, m, .non, rfl, rfl, SqL.of h4, rfl, flat_oV, ?_, rfl, ?_, r4, _, _, _, rfl, rfl, SqL.of hr4', atI_nat (by rw [List.getElem?_map, hm]; rfl), Af i, _, _, rfl, rfl, hiA, ?_, ?_⟩
          · rw [List.getElem?_map, hm]
            unfold okS at hpo
            show some (oV (oddsF D i j o)) = some V.non
            rw [Option.isNone_iff_eq_none.mp hpo]
            rfl
          · intro m' z' hm' hz'
            rw [List.getElem?_map] at hz'
            obtain ⟨o', ho', rfl⟩ := Option.map_eq_some_iff.mp hz'
            have := hmin m' o' hm' ho'
            unfold okS at this
            cases q : oddsF D i j o' with
            | none => rw [q] at this; cases this
            | some b => rfl
          · rw [List.length_map, hln i hi, if_neg (Nat.lt_irrefl _), if_pos rfl]
            exact Nat.lt_of_lt_of_le (show j < 100 by omega) (by decide)
          · refine ⟨_, _, _, _, fun h => if h = i then cs h ++ [o] else cs h, rfl, same_upd (sH2.trans s4) (nAf i hi).2, by rw [upd_ne (Ne.symm (nAf i hi).1)]; exact hA2', fun h hh => ?_, fun h hh => ?_, fun h a hh ha => ?_⟩
            · by_cases c1 : h = i
              · subst c1
                rw [upd_same]
                show _ = some (HO.lst ((if h = h then cs h ++ [o] else cs h).map V.int))
                rw [if_pos rfl, List.map_append]
                rfl
              · rw [upd_ne (dAf h i hh hi c1)]
                show _ = some (HO.lst ((if h = i then cs h ++ [o] else cs h).map V.int))
                rw [if_neg c1]
                exact s4 _ _ (hAf h hh)
            · show (if h = i then cs h ++ [o] else cs h).length = _
              by_cases c1 : h = i
              · subst c1
                rw [if_pos rfl, List.length_append, hln h hi, if_neg (Nat.lt_irrefl _), if_pos rfl, if_neg (Nat.lt_irrefl _), if_pos rfl]
                rfl
              · rw [if_neg c1, hln h hh, if_neg c1, if_neg c1]
            · show goodS D h a ((if h = i then cs h ++ [o] else cs h).getD a 0)
              have ha : a < (if h = i then cs h ++ [o] else cs h).length := ha
              by_cases c1 : h = i
              · subst c1
                rw [if_pos rfl] at ha ⊢
                have hl := hln h hi
                rw [if_neg (Nat.lt_irrefl _), if_pos rfl] at hl
                rw [List.length_append] at ha
                by_cases c2 : a < (cs h).length
                · have := hgd h a hi c2
                  rw [List.getD_eq_getElem?_getD, List.getElem?_append_left c2, ← List.getD_eq_getElem?_getD]
                  exact this
                · have : a = (cs h).length := by
                    have e : ([o] : List Int).length = 1 := rfl
                    omega
                  subst this
                  rw [List.getD_eq_getElem?_getD, List.getElem?_append_right (Nat.le_refl _), Nat.sub_self, hl]
                  exact ⟨by rw [eg]; exact List.mem_of_getElem? hm, hpo, by rw [eg]; exact find_first hm hpo hmin⟩
              · rw [if_neg c1] at ha ⊢
                exact hgd h a hh ha
    · rintro σ H2 ⟨g3, g4, g5, g6, cs, rfl, sH2, hA2, hAf, hln, hgd⟩
      refine ⟨_, _, _, _, _, cs, rfl, sH2, hA2, hAf, fun h hh => ?_, hgd⟩
      rw [hln h hh]
      by_cases c : h < i
      · rw [if_pos c, if_pos (by omega)]
      · by_cases c2 : h = i
        · rw [if_neg c, if_pos c2, if_pos (by omega), c2]
        · rw [if_neg c, if_neg c2, if_neg (by omega)]
  · rintro σ H' ⟨g2, g3, g4, g5, g6, cs, rfl, sH, hA2, hAf, hln, hgd⟩
    have hln' : ∀ h, h < 2 → (cs h).length = (D.al h).length := fun h hh => by
      rw [hln h hh, if_pos (by exact hh)]
    have hgd' : ∀ h a, h < 2 → a < (D.al h).length → goodS D h a ((cs h).getD a 0) := fun h a hh ha => hgd h a hh (by rw [hln' h hh]; exact ha)
    have rows : ∀ {H2 : Hp}, Same H' H2 → RowsAt H2 (.ref A2') [cs 0, cs 1] := fun {H2} s => ⟨A2', _, rfl, s _ _ hA2, .cons ⟨A0, rfl, s _ _ (hAf 0 (by decide))⟩ (.cons ⟨A1, rfl, s _ _ (hAf 1 (by decide))⟩ .nil)⟩
    refine ⟨_, rfl, _, rfl, _, rfl, p, 0, _, D, cs, rfl, by decide, hTk.mono sH, hW, rows (Same.refl _), hln', ansL_ne hW hln' hgd' (by decide), fun e0 H2 s5 f5 h5 => ?_⟩
    refine ⟨_, rfl, _, rfl, p, 1, _, D, cs, rfl, by decide, hTk.mono (sH.trans s5), hW, rows s5, hln', ansL_ne hW hln' hgd' (by decide), fun e1 H3 s6 f6 h6 => ?_⟩
    refine ⟨(by show 2 ≤ sizeLine; decide), fun an han => ⟨(by show 2 ≤ sizeLine; decide), fun t ht => ⟨(by show 2 ≤ sizeLine; decide), fun r hr => ?_⟩⟩⟩
    have s7 := same_new han (.lst [V.ref e0, V.ref e1])
    have s8 := same_new ht (.tup [V.ref A2', V.ref an])
    have s9 := same_new hr (.tup [V.str "boxed", V.ref t])
    have s789 := (s7.trans s8).trans s9
    have s59 := (s5.trans s6).trans s789
    exact qA _ r cs t A2' an A0 A1 e0 e1 (sH.trans s59) ⟨upd_same, s9 _ _ upd_same, s59 _ _ hA2, s59 _ _ (hAf 0 (by decide)), s59 _ _ (hAf 1 (by decide)), s9 _ _ (s8 _ _ upd_same), s789 _ _ (s6 _ _ h5), s789 _ _ h6, h0, none_of_same (sH.trans s5) f6, none_of_same sH f5⟩ hln' hgd'
end
end TB

set_option Elab.async false
set_option maxRecDepth 100000
set_option maxHeartbeats 4000000
namespace TB
open TA PySem L2 PyProof.Rows
set_option linter.unusedVariables false
/-! data that may be compared -/
def Ok (n : Nat) (d : PyData) : Prop := d.canLay0 = true ∧ d.depth ≤ n
theorem Ok.shaped {n : Nat} {d : PyData} (h : Ok n d) (e : n ≤ 64) : SeqAt.shaped d = true := by
  unfold SeqAt.shaped
  rw [h.1, decide_eq_true (Nat.le_trans h.2 e)]
  rfl
theorem ok_int {n : Nat} (i : Int) : Ok (n + 1) (.int i) := ⟨by simp [PyData.canLay0], by simp [PyData.depth]⟩
theorem ok_non {n : Nat} : Ok (n + 1) .none := ⟨by simp [PyData.canLay0], by simp [PyData.depth]⟩
theorem ok_all {n : Nat} : ∀ {ds : List PyData}, (∀ d ∈ ds, Ok n d) → PyData.canLayAll0 ds = true ∧ PyData.depthAll ds ≤ n
  | [], _ => ⟨rfl, by simp [PyData.depthAll]⟩
  | d :: ds, q => by
    obtain ⟨a, b⟩ := ok_all (ds := ds) (fun x hx => q x (List.mem_cons_of_mem _ hx))
    obtain ⟨c, e⟩ := q d List.mem_cons_self
    refine ⟨by simp [PyData.canLayAll0, a, c], ?_⟩
    simp only [PyData.depthAll]
    omega
theorem ok_list {n : Nat} {ds : List PyData} (q : ∀ d ∈ ds, Ok n d) : Ok (n + 1) (.list ds) := by
  obtain ⟨a, b⟩ := ok_all q
  refine ⟨by simpa [PyData.canLay0] using a, ?_⟩
  simp only [PyData.depth]
  omega
theorem ok_tuple {n : Nat} {ds : List PyData} (q : ∀ d ∈ ds, Ok n d) : Ok (n + 1) (.tuple ds) := by
  obtain ⟨a, b⟩ := ok_all q
  refine ⟨by simpa [PyData.canLay0] using a, ?_⟩
  simp only [PyData.depth]
  omega
theorem okD_pair (p : Int × Int) : Ok 2 (TA.pairD p) := ok_tuple fun d hd => by
  rcases List.mem_cons.mp hd with rfl | hd
  · exact ok_int _
  · obtain rfl := List.mem_singleton.mp hd
    exact ok_int _
theorem okD_pairs (l : List (Int × Int)) : Ok 3 (.list (l.map TA.pairD)) := ok_list fun d hd => by
  obtain ⟨p, _, rfl⟩ := List.mem_map.mp hd
  exact okD_pair p
theorem eqv_pair (p q : Int × Int) : PyData.eqv (TA.pairD p) (TA.pairD q) = decide (p = q) := by
  show ((p.1 == q.1) && ((p.2 == q.2) && true)) = decide (p = q)
  rw [Bool.and_true]
  by_cases h : p = q
  · subst h
    simp
  · rw [decide_eq_false h]
    by_cases h1 : p.1 = q.1
    · have : ¬ p.2 = q.2 := fun h2 => h (Prod.ext h1 h2)
      simp [this]
    · simp [h1]
theorem any_pair (l : List (Int × Int)) (p : Int × Int) : ((l.map TA.pairD).any fun z => PyData.eqv z (TA.pairD p)) = decide (p ∈ l) := by
  rw [List.any_map]
  by_cases h : p ∈ l
  · rw [decide_eq_true h, List.any_eq_true]
    exact ⟨p, h, by show PyData.eqv (TA.pairD p) (TA.pairD p) = true; rw [eqv_pair, decide_eq_true rfl]⟩
  · rw [decide_eq_false h, List.any_eq_false]
    intro q hq c
    have c : PyData.eqv (TA.pairD q) (TA.pairD p) = true := c
    rw [eqv_pair] at c
    exact h (of_decide_eq_true c ▸ hq)
/-! the checks of boxed protocols and bars -/
def anKV (an : Nat → IP × List (Int × Int) → Int) (h : Nat) (bo : BD) : List (List Key × V) := bo.map fun e => (kI e.1, V.int (an h e))
/-- a task at p whose dict is not the one at d -/
def TaskX (C : Addr) (H : Hp) (p : Addr) (T : TD) (d : Addr) : Prop := ∃ dx a d', H p = some (.ins C dx (flds a d')) ∧ AlAt H (.ref a) T.al ∧ BoAt H d' T.bo ∧ d' ≠ d
theorem TaskX.task {C : Addr} {H : Hp} {p : Addr} {T : TD} {d : Addr} (h : TaskX C H p T d) : TaskAt C H p T := by
  obtain ⟨dx, a, d', h1, h2, h3, _⟩ := h
  exact ⟨dx, a, d', h1, h2, h3⟩
theorem TaskX.mono {C : Addr} {H H' : Hp} (s : Same H H') {p : Addr} {T : TD} {d : Addr} (h : TaskX C H p T d) : TaskX C H' p T d := by
  obtain ⟨dx, a, d', h1, h2, h3, h4⟩ := h
  exact ⟨dx, a, d', s _ _ h1, h2.mono (.same s), h3.mono s, h4⟩
theorem TaskX.new {C : Addr} {H H' : Hp} (s : Same H H') {p : Addr} {T : TD} {d : Addr} (h : TaskAt C H p T) (n : H d = none) : TaskX C H' p T d := by
  obtain ⟨dx, a, d', h1, h2, h3⟩ := h
  refine ⟨dx, a, d', s _ _ h1, h2.mono (.same s), h3.mono s, fun c => ?_⟩
  subst c
  obtain ⟨kvs, h3, _⟩ := h3
  rw [h3] at n
  cases n
theorem TaskX.but {C : Addr} {H H' : Hp} {d : Addr} {k : List (List Key × V)} (e : H d = some (.dT k)) (s : But d H H') {p : Addr} {T : TD} (h : TaskX C H p T d) : TaskAt C H' p T := by
  obtain ⟨dx, a, d', h1, h2, ⟨kvs, h3, h5⟩, h4⟩ := h
  have kp := s.kp e nf_dT
  exact ⟨dx, a, d', s _ _ (ne_of h1 e (fun z => by cases z)) h1, h2.mono kp, kvs, s _ _ h4 h3, h5.imp fun _ _ r => r.mono kp⟩
structure BxF (C : Addr) (H : Hp) (p t : Addr) (T : TD) (ch : Nat → List Int) (an : Nat → IP × List (Int × Int) → Int) (al ans d0 d1 : Addr) : Prop where
  ht : H t = some (.tup [.ref al, .ref ans])
  hal : RowsAt H (.ref al) [ch 0, ch 1]
  hans : H ans = some (.lst [.ref d0, .ref d1])
  h0 : H d0 = some (.dT (anKV an 0 T.bo))
  h1 : H d1 = some (.dT (anKV an 1 T.bo))
  x0 : TaskX C H p T d0
  x1 : TaskX C H p T d1
  len : ∀ h, h < 2 → (ch h).length = (T.al h).length
  outc : ∀ h, h < 2 → ∀ x ∈ ch h, okOut x
  outa : ∀ h, h < 2 → ∀ e ∈ T.bo, okOut (an h e)
theorem BxF.mono {C : Addr} {H H' : Hp} (s : Same H H') {p t : Addr} {T : TD} {ch an al ans d0 d1} (b : BxF C H p t T ch an al ans d0 d1) : BxF C H' p t T ch an al ans d0 d1 :=
  ⟨s _ _ b.ht, b.hal.mono (.same s), s _ _ b.hans, s _ _ b.h0, s _ _ b.h1, b.x0.mono s, b.x1.mono s, b.len, b.outc, b.outa⟩
def pairO (h : Nat) (x w : Int) : Int × Int := if h = 0 then (x, w) else (w, x)
def okAns (ch : Nat → List Int) (an : Nat → IP × List (Int × Int) → Int) (h : Nat) (e : IP × List (Int × Int)) : Prop := pairO h (an h e) (wonO ch h e.1) ∈ e.2
def spIsAns (K : PySem.W.Frag) (C : Addr) : Sp := fun vs H Q _ => ∃ (p d : Addr) (T : TD) (h : Nat) (an : Nat → IP × List (Int × Int) → Int), vs = [.ref p, .ref d] ∧ TaskX C H p T d ∧ WFS T ∧ H d = some (.dT (anKV an h T.bo)) ∧ (∀ e ∈ T.bo, okOut (an h e)) ∧ ∀ H', Same H H' → Q (.bl true) H'
def spIsBoxed (K : PySem.W.Frag) (C : Addr) : Sp := fun vs H Q _ => ∃ (p t : Addr) (T : TD) (ch : Nat → List Int) (an : Nat → IP × List (Int × Int) → Int) (al ans d0 d1 : Addr), vs = [.ref p, .ref t] ∧ WFS T ∧ BxF C H p t T ch an al ans d0 d1 ∧ ∀ H', Same H H' → Q (.bl true) H'
section
variable {P : Program} {w : World} {K : PySem.W.Frag} {mg : Str → Option Value} {base : Heap}
abbrev nIsAns : List Str := ["task", "thing", "pair", "output"]
theorem sc_isans : FnScope nIsAns ["task", "thing"] (defScope s_is_answers) := ⟨rfl, rfl, rfl, by decide +kernel, rfl, by decide +kernel, by decide +kernel⟩
theorem ok_isans {f g1 g2 C : Addr} {fd d1 d2 : FuncData} (F : Fun K "is_answers" "is_answers" s_is_answers f fd) (T : Txt K mg) (T2 : Txt2 K mg) (Z : TxtC K mg C) (WP : Def P w K mg base "is_pair" ["task", "thing"] 4 (spPair K C) g1 d1)
    (WO : Def P w K mg base "is_output" ["thing"] 3 (spOut K) g2 d2) : FnOk P w K mg base CX0 5 f fd ["task", "thing"] (spIsAns K C) := by
  refine F.ok sc_isans (fun vs H Q E h => ?_) (fun cdv A outer s H vs Q E hr h => ?_)
  · obtain ⟨p, d, D, h, an, rfl, _⟩ := h
    rfl
  obtain ⟨p, d, D, h, an, rfl, hX, hW, hd, ho, q⟩ := h
  have nd := sc_isans.nd
  refine ⟨_, (pss_one (ps_ret (pe_and (pe_callB call_isi (by rfl) T.isi boot_isinstance (pa_cons (pv 1) (pa_cons (pe_bltn (v := .ty "dict") (by rfl) T2.dict boot_dict rfl) pa_nil))) (pe_and (pe_cmpR op_eq (pe_callB call_len_dT (by rfl) T.len PySem.boot_len (pa_cons (pv 1) pa_nil)) (pe_callB call_len_dT (by rfl) T.len PySem.boot_len (pa_cons (pe_fld (pv 0) rfl) pa_nil)) (nomark _)) (pe_one (pe_callB (cr_all rfl) (by rfl) T.all (by decide +kernel) (pa_cons (pe_lock (pe_lc (own := [("pair", 2), ("output", 3)]) (g := (gTup K 2 (gCons (gName 2) (gCons (gName 3) gNil)))) (tt := tYes) (te := (tAndV (tCall (spPair K C) [] E0 (tCons (tVar 0) (tCons (tVar 2) tNil))) (tCall (spOut K) [] E0 (tCons (tVar 3) tNil)))) rfl nd (pi_itemsT (pv 1)) (blkOk_by (N := nIsAns) (sc := defScope s_is_answers) (by decide +kernel)) (fun _ _ _ _ _ => (by exact (pg_tup (by rfl) (pgs_cons (pg_name (i := 2) nd rfl (Or.inl rfl)) (pgs_cons (pg_name (i := 3) nd rfl (Or.inl rfl)) pgs_nil))))) (fun _ _ _ _ _ => pts_nil) (fun _ _ _ _ _ => (by exact (pe_and (pe_call WP.G (hr.mono (by decide)) rfl WP.m WP.k WP.b .nil pass0 (pa_cons (pv 0) (pa_cons (pv 2) pa_nil))) (pe_one (pe_call WO.G (hr.mono (by decide)) rfl WO.m WO.k WO.b .nil pass0 (pa_cons (pv 3) pa_nil)))))))) pa_nil))))))), ?_⟩
  obtain ⟨dx, a, d', hp, hA, ⟨kvs, hd', ha⟩, hne⟩ := id hX
  have hkl : (anKV an h D.bo).length = D.bo.length := List.length_map _
  refine ⟨_, rfl, V.ref d, .ty "dict", .type "dict", .type "dict", true, rfl, .ty "dict", .base (.dT hd), kit_ty (by decide +kernel), _, rfl, iteT ?_⟩
  refine ⟨_, rfl, d, _, rfl, hd, _, rfl, p, C, dx, _, _, rfl, hp, Z.cl, Z.nB, flds_both _ _, d', kvs, rfl, hd', rfl, _, rfl, ?_⟩
  refine iteT' (by rw [dec_nat]; exact decide_eq_true (by rw [hkl, ha.len])) ?_
  refine ⟨d, _, hd, trivial, fun od => ?_⟩
  have hd1 : (upd H d (.frz od (.dT (anKV an h D.bo)))) d = some (.frz od (.dT (anKV an h D.bo))) := upd_same
  refine ⟨_, rfl, d, od, _, rfl, hd1, fun L hL => ?_⟩
  have nL : d ≠ L := ne_of_none hd1 hL
  have hLn : H L = none := none_of_but But.at (Ne.symm nL) hL
  refine itemT_turns (fun i H' => But d H H' ∧ H' d = some (.frz od (.dT (anKV an h D.bo))) ∧ H' L = some (.lst ((List.replicate i true).map V.bl))) ⟨But.at.trans (.same (same_new hL _)), by rw [upd_ne nL]; exact hd1, upd_same⟩ (fun i H' h => h.2.1) ?_ ?_
  · rintro i k x qa Tt H' hi hq hTn ⟨b1, e1, e2⟩
    unfold anKV at hi
    rw [List.getElem?_map] at hi
    obtain ⟨eb, hbi, e⟩ := Option.map_eq_some_iff.mp hi
    injection e with e3 e4
    subst e3
    subst e4
    have hm := List.mem_of_getElem? hbi
    have s1 := same_new hTn (.tup [V.ref qa, V.int (an h eb)])
    have hi2 : i < D.bo.length := (List.getElem?_eq_some_iff.mp hbi).1
    refine ⟨Tt, _, rfl, SqT.of upd_same, rfl, _, _, rfl, _, _, rfl, rfl, rfl, _, rfl, _, rfl, p, _, D, iI eb.1, rfl, hX.but hd (b1.trans (.same s1)), hW, kI_tp (s1 _ _ hq), fun H2 s2 => ?_⟩
    rw [hasK_yes hm]
    refine ⟨_, rfl, iteT ⟨_, rfl, _, _, rfl, .int _, ?_⟩⟩
    rw [out_yes (ho eb hm)]
    have s13 := s1.trans s2
    refine ⟨_, s13 _ _ e2, ?_, (b1.trans (.same s13)).new hLn, by rw [upd_ne nL]; exact s13 _ _ e1, by rw [upd_same, rep_snoc]⟩
    rw [List.length_map, List.length_replicate]
    have := hW.many
    exact Nat.lt_of_lt_of_le (show i < 100 by omega) (by decide)
  · rintro H1 ⟨b1, e1, e2⟩
    have s1 : Same H (upd H1 d (.dT (anKV an h D.bo))) := b1.unlock hd
    refine ⟨e1, L, _, rfl, SqL.of (by rw [upd_ne (Ne.symm nL)]; exact e2), ?_⟩
    rw [all_true]
    exact q _ s1
abbrev nIsBoxed : List Str := ["task", "thing", "answers"]
theorem sc_isboxed : FnScope nIsBoxed ["task", "thing"] (defScope s_is_boxed) := ⟨rfl, rfl, rfl, by decide +kernel, rfl, by decide +kernel, by decide +kernel⟩
theorem row_yes {c : List Int} {n : Nat} (h : c.length = n) (o : ∀ x ∈ c, okOut x) : rowB (rowD c) n = true := by
  show (decide ((c.map PyData.int).length = n) && ((c.map PyData.int).map outB).all id) = true
  rw [List.length_map, decide_eq_true h, Bool.true_and, List.all_eq_true]
  intro b hb
  obtain ⟨d, hd, rfl⟩ := List.mem_map.mp hb
  obtain ⟨x, hx, rfl⟩ := List.mem_map.mp hd
  exact out_yes (o x hx)
theorem BxF.chosen {C : Addr} {H : Hp} {p t : Addr} {T : TD} {ch an al ans d0 d1} (b : BxF C H p t T ch an al ans d0 d1) : chosenB (rowsD [ch 0, ch 1]) (T.al 0).length (T.al 1).length = true := by
  show (rowB (rowD (ch 0)) _ && rowB (rowD (ch 1)) _) = true
  rw [row_yes (b.len 0 (by decide)) (b.outc 0 (by decide)), row_yes (b.len 1 (by decide)) (b.outc 1 (by decide))]
  rfl
theorem ok_isboxed {f g1 g2 C : Addr} {fd d1 d2 : FuncData} (F : Fun K "is_boxed" "is_boxed" s_is_boxed f fd) (T : Txt K mg) (Z : TxtC K mg C) (WC : Def P w K mg base "is_chosen" ["task", "thing"] 5 (spChosen K C) g1 d1)
    (WIA : Def P w K mg base "is_answers" ["task", "thing"] 5 (spIsAns K C) g2 d2) : FnOk P w K mg base CX0 6 f fd ["task", "thing"] (spIsBoxed K C) := by
  refine F.ok sc_isboxed (fun vs H Q E h => ?_) (fun cdv A outer s H vs Q E hr h => ?_)
  · obtain ⟨p, t, D, ch, an, al, ans, e0, e1, rfl, _⟩ := h
    rfl
  obtain ⟨p, t, D, ch, an, al, ans, e0, e1, rfl, hW, B, q⟩ := h
  have nd := sc_isboxed.nd
  refine ⟨_, (pss_one (ps_ret (pe_and (pe_callB call_isi (by rfl) T.isi boot_isinstance (pa_cons (pv 1) (pa_cons (pe_bltn (v := .ty "tuple") (by rfl) T.tuple boot_tuple rfl) pa_nil))) (pe_and (pe_cmpR op_eq (pe_callB call_len_seq (by rfl) T.len PySem.boot_len (pa_cons (pv 1) pa_nil)) pe_int (nomark _)) (pe_and (pe_call WC.G (hr.mono (by decide)) rfl WC.m WC.k WC.b .nil pass0 (pa_cons (pv 0) (pa_cons (pe_ix ix_tup (pv 1) pe_int (fun _ _ => rfl)) pa_nil))) (pe_and (pe_callB call_isi (by rfl) T.isi boot_isinstance (pa_cons (pe_ix ix_tup (pv 1) pe_int (fun _ _ => rfl)) (pa_cons (pe_bltn (v := .ty "list") (by rfl) T.list boot_list rfl) pa_nil))) (pe_and (pe_cmpR op_eq (pe_callB call_len_seq (by rfl) T.len PySem.boot_len (pa_cons (pe_ix ix_tup (pv 1) pe_int (fun _ _ => rfl)) pa_nil)) pe_int (nomark _)) (pe_one (pe_callB (cr_all rfl) (by rfl) T.all (by decide +kernel) (pa_cons (pe_lc (own := [("answers", 2)]) (g := (gName 2)) (tt := tYes) (te := (tCall (spIsAns K C) [] E0 (tCons (tVar 0) (tCons (tVar 2) tNil)))) rfl nd (pi_list (pe_ix ix_tup (pv 1) pe_int (fun _ _ => rfl))) (blkOk_by (N := nIsBoxed) (sc := defScope s_is_boxed) (by decide +kernel)) (fun _ _ _ _ _ => (by exact (pg_name (i := 2) nd rfl (Or.inl rfl)))) (fun _ _ _ _ _ => pts_nil) (fun _ _ _ _ _ => (by exact (pe_call WIA.G (hr.mono (by decide)) rfl WIA.m WIA.k WIA.b .nil pass0 (pa_cons (pv 0) (pa_cons (pv 2) pa_nil)))))) pa_nil)))))))))), ?_⟩
  refine ⟨_, rfl, V.ref t, .ty "tuple", .type "tuple", .type "tuple", true, rfl, .ty "tuple", .base (.tup B.ht), kit_ty (by decide +kernel), _, rfl, iteT ?_⟩
  refine ⟨_, rfl, t, _, rfl, .inr (SqT.of B.ht), rfl, _, rfl, iteT ?_⟩
  refine ⟨_, rfl, _, rfl, t, _, _, _, rfl, rfl, SqT.of B.ht, (by rfl), p, _, _, D, rfl, B.x0.task, B.hal.dp, ?_, fun H1 s1 => ?_⟩
  · rintro ds e z hz
    cases e
    rcases List.mem_cons.mp hz with rfl | hz
    · intro es e
      cases e
      rw [List.length_map, B.len 0 (by decide)]
      have := hW.n0 0 (by decide); omega
    · obtain rfl := List.mem_singleton.mp hz
      intro es e
      cases e
      rw [List.length_map, B.len 1 (by decide)]
      have := hW.n0 1 (by decide); omega
  rw [B.chosen]
  have B1 := B.mono s1
  refine ⟨_, rfl, iteT ?_⟩
  refine ⟨_, rfl, t, _, _, _, rfl, rfl, SqT.of B1.ht, (by rfl), V.ref ans, .ty "list", .type "list", .type "list", true, rfl, .ty "list", .base (.lst B1.hans), kit_ty (by decide +kernel), _, rfl, iteT ?_⟩
  refine ⟨_, rfl, t, _, _, _, rfl, rfl, SqT.of B1.ht, (by rfl), ans, _, rfl, .inl (SqL.of B1.hans), rfl, _, rfl, iteT ?_⟩
  refine ⟨_, rfl, t, _, _, _, rfl, rfl, SqT.of B1.ht, (by rfl), ans, rfl, ⟨_, SqL.of B1.hans⟩, fun L hL => ?_⟩
  refine list_turns (xs := [V.ref e0, V.ref e1]) (fun i H' => Same H1 H' ∧ H' L = some (.lst ((List.replicate i true).map V.bl))) ⟨same_new hL _, upd_same⟩ (fun i H' _ h => SqL.of (h.1 _ _ B1.hans)) ?_ ?_
  · rintro i x H' hx ⟨s3, h3⟩
    have hi : i < 2 := (List.getElem?_eq_some_iff.mp hx).1
    have B3 := B1.mono s3
    obtain ⟨d, rfl, hX, hd⟩ : ∃ d, x = .ref d ∧ TaskX C H' p D d ∧ H' d = some (.dT (anKV an i D.bo)) := by
      obtain rfl | rfl : i = 0 ∨ i = 1 := by omega
      · exact ⟨e0, by simpa using hx.symm, B3.x0, B3.h0⟩
      · exact ⟨e1, by simpa using hx.symm, B3.x1, B3.h1⟩
    refine ⟨rfl, _, rfl, _, rfl, p, d, D, i, an, rfl, hX, hW, hd, B.outa i hi, fun H4 s4 => ⟨_, s4 _ _ h3, ?_, same_upd (s3.trans s4) hL, by rw [upd_same, rep_snoc]⟩⟩
    rw [List.length_map, List.length_replicate]
    exact Nat.lt_of_lt_of_le (show i < 100 by omega) (by decide)
  · rintro H3 ⟨s3, h3⟩
    refine ⟨L, _, rfl, SqL.of h3, ?_⟩
    rw [all_true]
    exact q _ (s1.trans s3)
end
end TB

set_option Elab.async false
set_option maxRecDepth 100000
set_option maxHeartbeats 4000000
namespace TB
open TA PySem L2 PyProof.Rows
set_option linter.unusedVariables false
theorem anKV_at {bo : BD} (s : (bo.map (·.1)).Pairwise ltN) (an : Nat → IP × List (Int × Int) → Int) (h : Nat) : ∀ e ∈ bo, valV (anKV an h bo) (kI e.1) = some (.int (an h e)) := by
  induction bo with
  | nil => intro e m; cases m
  | cons b bo ih =>
    intro e m
    rw [List.map_cons, List.pairwise_cons] at s
    show valV ((kI b.1, V.int (an h b)) :: anKV an h bo) (kI e.1) = _
    rcases List.mem_cons.mp m with rfl | m
    · exact valV_pos rfl
    · rw [valV_neg (fun c => ltN_ne (s.1 _ (List.mem_map.mpr ⟨e, m, rfl⟩)) (kI_inj c))]
      exact ih s.2 e m
/-- None where there is no fault; where there is one, a new tuple -/
def Res (fv : V) (H' : Hp) (good : Prop) : Prop := (fv = .non ∧ good) ∨ (∃ r xs, fv = .ref r ∧ H' r = some (.tup xs)) ∧ ¬ good
def spAnsF (K : PySem.W.Frag) (C : Addr) : Sp := fun vs H Q _ => ∃ (p d : Addr) (h : Nat) (v : V) (T : TD) (ch : Nat → List Int) (an : Nat → IP × List (Int × Int) → Int), vs = [.ref p, .int (h : Int), v, .ref d] ∧ h < 2 ∧ TaskAt C H p T ∧ WFS T ∧ RowsAt H v [ch 0, ch 1] ∧ (∀ h, h < 2 → (ch h).length = (T.al h).length) ∧ H d = some (.dT (anKV an h T.bo)) ∧
  ∀ fv H', Same H H' → Res fv H' (∀ e ∈ T.bo, okAns ch an h e) → Q fv H'
def spBoxF (K : PySem.W.Frag) (C : Addr) : Sp := fun vs H Q _ => ∃ (p t : Addr) (T : TD) (ch : Nat → List Int) (an : Nat → IP × List (Int × Int) → Int) (al ans d0 d1 : Addr), vs = [.ref p, .ref t] ∧ WFS T ∧ BxF C H p t T ch an al ans d0 d1 ∧
  ∀ fv H', Same H H' → Res fv H' ((∀ h a, h < 2 → a < (T.al h).length → okA T ch h a) ∧ ∀ h, h < 2 → ∀ e ∈ T.bo, okAns ch an h e) → Q fv H'
section
variable {P : Program} {w : World} {K : PySem.W.Frag} {mg : Str → Option Value} {base : Heap}
abbrev nAnsF : List Str := ["task", "hand", "alone", "answers", "pair", "told"]
theorem sc_ansf : FnScope nAnsF ["task", "hand", "alone", "answers"] (defScope s_answers_fault) := ⟨rfl, rfl, rfl, by decide +kernel, rfl, by decide +kernel, by decide +kernel⟩
theorem set_told {h : Nat} (hh : h < 2) (x w : Int) : ([V.int x, V.int x] : List V).set (1 - h) (V.int w) = [V.int (pairO h x w).1, V.int (pairO h x w).2] := by
  obtain rfl | rfl : h = 0 ∨ h = 1 := by omega
  · rfl
  · rfl
theorem ok_ansf {f g2 C : Addr} {fd d2 : FuncData} (F : Fun K "answers_fault" "answers_fault" s_answers_fault f fd) (T : Txt K mg) (Z : TxtC K mg C)
    (Prs : MDef P w K mg base C "pairs" nPairs 1 (spPairs K C) g2 d2) : FnOk P w K mg base CX0 2 f fd ["task", "hand", "alone", "answers"] (spAnsF K C) := by
  refine F.ok sc_ansf (fun vs H Q E h => ?_) (fun cdv A outer s H vs Q E hr h => ?_)
  · obtain ⟨p, d, h, v, D, ch, an, rfl, _⟩ := h
    rfl
  obtain ⟨p, d, h, v, D, ch, an, rfl, hh, hTk, hW, hR, hlen, hd, q0⟩ := h
  have nd := sc_ansf.nd
  have hu := hu_of hr
  have hu65 := hu65_of hr
  refine ⟨_, (pss_cons (ps_for PassesOwn.never (by rfl) (pi_list (pe_meth0 (pv 0) Z.cl Prs.M Prs.G (hr.mono (by decide)) Prs.b .nil pass0)) (pg_name (i := 4) nd rfl (Or.inl rfl))
      (pss_cons (ps_set (i := 5) nd rfl (Or.inl rfl) (pe_lst (pa_cons (pe_dget hu (pv 3) (pv 4) (fun _ _ => rfl)) (pa_cons (pe_dget hu (pv 3) (pv 4) (fun _ _ => rfl)) pa_nil))))
    (pss_cons (ps_asg (pe_ix ix_list (pe_ix ix_list (pv 2) (pe_op op_sub pe_int (pv 1)) (fun _ _ => rfl)) (pe_ix ix_tup (pv 4) (pe_op op_sub pe_int (pv 1)) (fun _ _ => rfl)) (fun _ _ => rfl)) (pg_sub (pv 5) (pe_op op_sub pe_int (pv 1)) set_list))
    (pss_one (ps_if (pt_cmpR (op_notInD hu65) (pe_callTy call_tuple_of (by rfl) T.tuple boot_tuple (pa_cons (pv 5) pa_nil)) (pe_dget hu (pe_fld (pv 0) rfl) (pv 4) (fun _ _ => rfl)) (by rfl))
      (pss_one (ps_ret (pe_tup (pa_cons pe_str (pa_cons (pv 1) (pa_cons (pv 4) pa_nil))))))
      pss_nil)))))
    (pss_one (ps_ret pe_non))), ?_⟩
  obtain ⟨dx, a0, db, hp, hA, hB⟩ := id hTk
  refine ⟨_, rfl, p, dx, _, rfl, hp, flds_no _ _ (by decide +kernel) (by decide +kernel), p, D, rfl, hTk, hW, fun r xs hr0 hx => ?_⟩
  have s1 := same_new hr0 (.lst xs)
  have hr1 : (upd H r (.lst xs)) r = some (.lst xs) := upd_same
  refine ⟨r, rfl, ⟨_, SqL.of hr1⟩, for_list (xs := xs) (fun i σ H' => ∃ g1 g2, σ = [some (.ref p), some (.int (h : Int)), some v, some (.ref d), g1, g2] ∧ Same (upd H r (.lst xs)) H' ∧ ∀ e ∈ D.bo.take i, okAns ch an h e) ⟨_, _, rfl, Same.refl _, fun e he => by cases he⟩ (fun i σ H' _ ⟨_, _, _, s, _⟩ => s.seq (SqL.of hr1)) ?_ ?_⟩
  · rintro i x σ H' hxi ⟨g1, g2, rfl, s2, hok⟩
    have sH := s1.trans s2
    obtain ⟨y, hy, tt, rfl, htt⟩ := (hx.imp fun _ _ r => r.mono (.same sH)).get hxi
    rw [List.getElem?_map] at hy
    obtain ⟨e, hbe, rfl⟩ := Option.map_eq_some_iff.mp hy
    have hem := List.mem_of_getElem? hbe
    obtain ⟨rg0, rg1⟩ := hW.rng e hem
    have hd' := sH _ _ hd
    have hv1 := anKV_at hW.srtN an h e hem
    refine ⟨_, rfl, _, rfl, d, _, rfl, hv1 ▸ DGet.t (k := kI e.1) hd' htt, _, rfl, _, rfl, d, _, rfl, hv1 ▸ DGet.t (k := kI e.1) hd' htt, (by show 2 ≤ sizeLine; decide), fun L hL => ?_⟩
    have s3 := same_new hL (.lst [V.int (an h e), V.int (an h e)])
    obtain ⟨t, ys, rfl, ht, ar⟩ := hR.mono (.same (sH.trans s3))
    have h1 : 1 - h < 2 := by omega
    obtain ⟨z, hz, rr, rfl, hrow⟩ := ar.at (i := 1 - h) (y := ch (1 - h)) (by
      obtain rfl | rfl : h = 0 ∨ h = 1 := by omega
      · rfl
      · rfl)
    have hsl : sel (1 - h) e.1 < (ch (1 - h)).length := by
      rw [hlen _ h1]
      obtain rfl | rfl : h = 0 ∨ h = 1 := by omega
      · exact rg1
      · exact rg0
    have gw : ((ch (1 - h)).map V.int)[sel (1 - h) e.1]? = some (.int (wonO ch h e.1)) := by
      unfold wonO
      rw [List.getElem?_map, List.getD_eq_getElem?_getD, List.getElem?_eq_getElem hsl]
      rfl
    have e1h : (1 : Int) - (h : Int) = ((1 - h : Nat) : Int) := by omega
    refine ⟨_, rfl, _, rfl, _, _, rfl, rfl, t, _, _, _, rfl, rfl, SqL.of ht, atI_one hh hz, _, rfl, _, rfl, _, _, rfl, rfl, tt, _, _, _, rfl, rfl, SqT.of (s3 _ _ htt), atI_one hh (iI_at h1 e.1), rr, _, _, _, rfl, rfl, SqL.of hrow, atI_nat gw, ?_⟩
    refine ⟨_, rfl, _, rfl, _, _, rfl, rfl, L, _, _, 1 - h, rfl, rfl, upd_same, (by
      rw [e1h]
      obtain rfl | rfl : h = 0 ∨ h = 1 := by omega
      · rfl
      · rfl), ?_⟩
    rw [set_told hh]
    have sL : Same H' (upd (upd H' L (.lst [V.int (an h e), V.int (an h e)])) L (.lst [V.int (pairO h (an h e) (wonO ch h e.1)).1, V.int (pairO h (an h e) (wonO ch h e.1)).2])) := same_upd s3 hL
    refine ⟨_, rfl, L, _, rfl, .inl ⟨SqL.of upd_same, fun u hu' => ?_⟩⟩
    have s4 := same_new hu' (.tup [V.int (pairO h (an h e) (wonO ch h e.1)).1, V.int (pairO h (an h e) (wonO ch h e.1)).2])
    have s34 := sL.trans s4
    obtain ⟨dx2, a2, d2, hp2, hA2, kvs, hd2, ha2⟩ := hTk.mono (sH.trans s34)
    obtain ⟨lv, hlv, hlet⟩ := val_at ha2 hW.srtN e hem
    refine ⟨_, rfl, p, C, dx2, _, _, rfl, hp2, Z.cl, Z.nB, flds_both _ _, _, rfl, d2, _, rfl, hlv ▸ DGet.t (k := kI e.1) hd2 (s34 _ _ htt), TA.pairD (pairO h (an h e) (wonO ch h e.1)), e.2.map TA.pairD, (TpAt.dp ⟨u, rfl, upd_same⟩), hlet.dp, (okD_pair _).shaped (by decide), (okD_pairs _).shaped (by decide), _, rfl, ?_⟩
    rw [any_pair]
    by_cases c : okAns ch an h e
    · rw [decide_eq_true (show pairO h (an h e) (wonO ch h e.1) ∈ e.2 from c)]
      refine iteF ⟨_, _, rfl, s2.trans s34, fun e' he' => ?_⟩
      rw [take_get hbe] at he'
      rcases List.mem_append.mp he' with h' | h'
      · exact hok e' h'
      · obtain rfl := List.mem_singleton.mp h'
        exact c
    · rw [decide_eq_false (show ¬ pairO h (an h e) (wonO ch h e.1) ∈ e.2 from c)]
      refine iteT ⟨_, rfl, _, rfl, (by show 3 ≤ sizeLine; decide), fun r2 hr2 => ?_⟩
      exact q0 _ _ ((sH.trans s34).trans (same_new hr2 _)) (.inr ⟨⟨r2, _, rfl, upd_same⟩, fun g => c (g e hem)⟩)
  · rintro σ H' ⟨g1, g2, rfl, s2, hok⟩
    refine q0 _ _ (s1.trans s2) (.inl ⟨rfl, fun e he => hok e ?_⟩)
    rw [hx.len, List.length_map, List.take_length]
    exact he
abbrev nBoxF : List Str := ["task", "thing", "alone", "answers", "fault", "hand"]
theorem sc_boxf : FnScope nBoxF ["task", "thing"] (defScope s_boxed_fault) := ⟨rfl, rfl, rfl, by decide +kernel, rfl, by decide +kernel, by decide +kernel⟩
theorem ok_boxf {f g1 g2 g3 C : Addr} {fd d1 d2 d3 : FuncData} (F : Fun K "boxed_fault" "boxed_fault" s_boxed_fault f fd) (T : Txt K mg) (U : TxtH K mg) (Z : TxtC K mg C) (WIB : Def P w K mg base "is_boxed" ["task", "thing"] 6 (spIsBoxed K C) g1 d1)
    (WA : Def P w K mg base "alone_fault" ["task", "alone"] 5 (spAloneF K C) g2 d2) (WAF : Def P w K mg base "answers_fault" ["task", "hand", "alone", "answers"] 2 (spAnsF K C) g3 d3) : FnOk P w K mg base CX0 7 f fd ["task", "thing"] (spBoxF K C) := by
  refine F.ok sc_boxf (fun vs H Q E h => ?_) (fun cdv A outer s H vs Q E hr h => ?_)
  · obtain ⟨p, t, D, ch, an, al, ans, e0, e1, rfl, _⟩ := h
    rfl
  obtain ⟨p, t, D, ch, an, al, ans, e0, e1, rfl, hW, B, q0⟩ := h
  obtain ⟨hT, mH, hH⟩ := U.hands
  have nd := sc_boxf.nd
  refine ⟨_, (pss_cons (ps_if (pt_not (pt_val (pe_call WIB.G (hr.mono (by decide)) rfl WIB.m WIB.k WIB.b .nil pass0 (pa_cons (pv 0) (pa_cons (pv 1) pa_nil)))))
      (pss_one (ps_ret (pe_tup (pa_cons pe_str pa_nil))))
      pss_nil)
    (pss_cons (ps_asg (pv 1) (pg_tup (by rfl) (pgs_cons (pg_name (i := 2) nd rfl (Or.inl rfl)) (pgs_cons (pg_name (i := 3) nd rfl (Or.inl rfl)) pgs_nil))))
    (pss_cons (ps_set (i := 4) nd rfl (Or.inl rfl) (pe_call WA.G (hr.mono (by decide)) rfl WA.m WA.k WA.b .nil pass0 (pa_cons (pv 0) (pa_cons (pv 2) pa_nil))))
    (pss_cons (ps_for PassesOwn.never (by rfl) (pi_tup (pe_glob (v := .ref hT) rfl mH rfl)) (pg_name (i := 5) nd rfl (Or.inl rfl))
      (pss_one (ps_if (pt_cmpR op_isN (pv 4) pe_non (nomark _))
      (pss_one (ps_set (i := 4) nd rfl (Or.inl rfl) (pe_call WAF.G (hr.mono (by decide)) rfl WAF.m WAF.k WAF.b .nil pass0 (pa_cons (pv 0) (pa_cons (pv 5) (pa_cons (pv 2) (pa_cons (pe_ix ix_list (pv 3) (pv 5) (fun _ _ => rfl)) pa_nil)))))))
      pss_nil)))
    (pss_one (ps_ret (pv 4))))))), ?_⟩
  refine ⟨_, rfl, _, rfl, p, t, D, ch, an, al, ans, e0, e1, rfl, hW, B, fun H1 s1 => ⟨true, rfl, iteF ?_⟩⟩
  have B1 := B.mono s1
  refine ⟨_, rfl, t, _, rfl, SqT.of B1.ht, rfl, _, _, rfl, _, _, rfl, rfl, ?_⟩
  refine ⟨_, rfl, _, rfl, p, _, D, ch, rfl, B1.x0.task, hW, B1.hal, B.len, fun fv H2 s2 hres => ?_⟩
  have B2 := B1.mono s2
  have s12 := s1.trans s2
  refine ⟨hT, rfl, ⟨_, hH _⟩, for_tup (xs := [V.int 0, V.int 1]) (fun i σ H' => ∃ fv g, σ = [some (.ref p), some (.ref t), some (.ref al), some (.ref ans), some fv, g] ∧ Same H2 H' ∧ Res fv H' ((∀ h a, h < 2 → a < (D.al h).length → okA D ch h a) ∧ ∀ h, h < i → ∀ e ∈ D.bo, okAns ch an h e)) ⟨fv, _, rfl, Same.refl _, ?_⟩ (fun i σ H' _ _ => hH H') ?_ ?_⟩
  · rcases hres with ⟨rfl, g⟩ | ⟨r, h, a, rfl, e, hh, ha, c, _⟩
    · exact .inl ⟨rfl, g, fun h hh => absurd hh (Nat.not_lt_zero _)⟩
    · exact .inr ⟨⟨r, _, rfl, e⟩, fun g => c (g.1 h a hh ha)⟩
  · rintro i z σ H' hz ⟨fv, g, rfl, s3, hres⟩
    obtain ⟨hi, rfl⟩ := hand_at hz
    have B3 := B2.mono s3
    refine ⟨_, rfl, rfl, _, rfl, ?_⟩
    rcases hres with ⟨rfl, g1, g2⟩ | ⟨⟨r, xs, rfl, e⟩, c⟩
    case inr =>
      refine iteF ⟨_, _, rfl, s3, .inr ⟨⟨r, xs, rfl, e⟩, fun g => c ⟨g.1, fun h hh => g.2 h (by omega)⟩⟩⟩
    refine iteT ?_
    obtain ⟨d, hd1, hd2⟩ : ∃ d, ([V.ref e0, V.ref e1] : List V)[i]? = some (.ref d) ∧ H' d = some (.dT (anKV an i D.bo)) := by
      obtain rfl | rfl : i = 0 ∨ i = 1 := by omega
      · exact ⟨e0, rfl, B3.h0⟩
      · exact ⟨e1, rfl, B3.h1⟩
    refine ⟨_, rfl, _, rfl, _, rfl, _, rfl, _, rfl, ans, _, _, _, rfl, rfl, SqL.of B3.hans, atI_nat hd1, p, d, i, _, D, ch, an, rfl, hi, B3.x0.task, hW, B3.hal, B.len, hd2, fun fv H4 s4 hr4 => ?_⟩
    refine ⟨_, _, rfl, s3.trans s4, ?_⟩
    rcases hr4 with ⟨rfl, g3⟩ | ⟨h5, c⟩
    · refine .inl ⟨rfl, g1, fun h hh => ?_⟩
      rcases Nat.lt_succ_iff_lt_or_eq.mp hh with h' | rfl
      · exact g2 h h'
      · exact g3
    · exact .inr ⟨h5, fun g => c (g.2 i (Nat.lt_succ_self _))⟩
  · rintro σ H' ⟨fv, g, rfl, s3, hres⟩
    exact ⟨_, rfl, q0 fv H' (s12.trans s3) hres⟩
end
end TB

set_option Elab.async false
set_option maxRecDepth 100000
set_option maxHeartbeats 4000000
namespace TB
open TA PySem L2 PyProof.Rows
set_option linter.unusedVariables false
/-- xs[i] as an augmented assignment reads it, 0 ≤ i -/
theorem get_list {X : Cx} : PGet X (fun o i H Q => ∃ (p : Addr) (xs : List V) (k : Nat) (v : V), o = .ref p ∧ i = .int (k : Int) ∧ SqL X.K H p xs ∧ xs[k]? = some v ∧ Q v H) := by
  intro pins s σ H o i ov iv Q I ro ri h
  obtain ⟨p, xs, k, v, rfl, rfl, hq, he, q⟩ := h
  cases ro
  obtain ⟨t, rfl⟩ := ri
  obtain ⟨its, r, pl, hz⟩ := I.list hq
  obtain ⟨w, ew, rw'⟩ := r.get he
  have hl := r.length
  have hn := line63
  have hk : k < xs.length := (List.getElem?_eq_some_iff.mp he).1
  refine getItem_listL (l := its) pl.isList (by omega) ?_ (by simpa using ew) ⟨v, H, I, rw', q⟩
  omega
/-! weavings with a box -/
def HW (ws : List Int) : Prop := ∀ x ∈ ws, x = 0 ∨ x = 1
def winG : List Int → Nat → Nat → Option Nat
  | [], _, _ => none
  | h :: r, a, b => if h = 0 then (if a = 1 then some 0 else winG r (a + 1) b) else (if b = 1 then some 1 else winG r a (b + 1))
def win (ws : List Int) : Option Nat := winG ws 0 0
def oN : Option Nat → V
  | none => .non
  | some h => .int ((h : Nat) : Int)
def wbB (ws : List Int) : Bool := decide (ws.count 0 ≤ 3) && decide (ws.count 1 ≤ 3) && (match win ws with
  | none => true
  | some h => decide (ws.count ((h : Nat) : Int) = 2))
theorem winG_lt : ∀ {ws : List Int} {a b h : Nat}, winG ws a b = some h → h < 2
  | [], _, _, _, e => by cases e
  | x :: r, a, b, h, e => by
    unfold winG at e
    split at e
    · split at e
      · cases e; decide
      · exact winG_lt e
    · split at e
      · cases e; decide
      · exact winG_lt e
theorem win_lt {ws : List Int} {h : Nat} (e : win ws = some h) : h < 2 := winG_lt e
structure TxtB (K : PySem.W.Frag) (mg : Str → Option Value) : Prop where
  two : ∃ t, mg "STEPS_TO_BOX" = some (.int 2 t)
  three : ∃ t, mg "STEPS_OF_LOSER" = some (.int 3 t)
def spWin : Sp := fun vs H Q _ => ∃ (l : Addr) (ws : List Int), vs = [.ref l] ∧ H l = some (.lst (ws.map V.int)) ∧ HW ws ∧ ∀ H', Same H H' → Q (oN (win ws)) H'
def spBW : Sp := fun vs H Q _ => ∃ (l : Addr) (ws : List Int), vs = [.ref l] ∧ H l = some (.lst (ws.map V.int)) ∧ HW ws ∧ ws.length ≤ 20 ∧ ∀ H', Same H H' → Q (.bl (wbB ws)) H'
theorem ws_at {ws : List Int} {i : Nat} {x : V} (h : (ws.map V.int)[i]? = some x) : ∃ k, x = .int k ∧ ws[i]? = some k := by
  rw [List.getElem?_map] at h
  obtain ⟨k, hk, rfl⟩ := Option.map_eq_some_iff.mp h
  exact ⟨k, rfl, hk⟩
theorem drop_get {α : Type} {l : List α} {i : Nat} {x : α} (h : l[i]? = some x) : l.drop i = x :: l.drop (i + 1) := by
  obtain ⟨hi, rfl⟩ := List.getElem?_eq_some_iff.mp h
  exact List.drop_eq_getElem_cons hi
section
variable {P : Program} {w : World} {K : PySem.W.Frag} {mg : Str → Option Value} {base : Heap}
abbrev nWin : List Str := ["weaving", "steps", "hand"]
theorem sc_win : FnScope nWin ["weaving"] (defScope s_winner) := ⟨rfl, rfl, rfl, by decide +kernel, rfl, by decide +kernel, by decide +kernel⟩
theorem ok_win {f : Addr} {fd : FuncData} (F : Fun K "winner" "winner" s_winner f fd) (T : Txt K mg) (B : TxtB K mg) : FnOk P w K mg base CX0 1 f fd ["weaving"] spWin := by
  refine F.ok sc_win (fun vs H Q E h => ?_) (fun cdv A outer s H vs Q E hr h => ?_)
  · obtain ⟨l, ws, rfl, _⟩ := h
    rfl
  obtain ⟨l, ws, rfl, hl, hw, q⟩ := h
  have nd := sc_win.nd
  obtain ⟨t2, m2⟩ := B.two
  refine ⟨_, (pss_cons (ps_set (i := 1) nd rfl (Or.inl rfl) (pe_lst (pa_cons pe_int (pa_cons pe_int pa_nil))))
    (pss_cons (ps_for PassesOwn.never (by rfl) (pi_list (pv 0)) (pg_name (i := 2) nd rfl (Or.inl rfl))
      (pss_cons (ps_augS (pv 1) (pv 2) get_list pe_int ip_add set_list)
    (pss_one (ps_if (pt_cmpR op_eq (pe_ix ix_list (pv 1) (pv 2) (fun _ _ => rfl)) (pe_glob (v := .int 2) rfl m2 ⟨_, rfl⟩) (nomark _))
      (pss_one (ps_ret (pv 2)))
      pss_nil))))
    (pss_one (ps_ret pe_non)))), ?_⟩
  refine ⟨(by show 2 ≤ sizeLine; decide), fun S hS => ?_⟩
  have s1 := same_new hS (.lst [V.int 0, V.int 0])
  refine ⟨_, rfl, l, rfl, ⟨_, SqL.of (s1 _ _ hl)⟩, for_list (xs := ws.map V.int) (fun i σ H' => ∃ (g : Option V) (a b : Nat), σ = [some (.ref l), some (.ref S), g] ∧ Same H H' ∧ H' S = some (.lst [V.int ((a : Nat) : Int), V.int ((b : Nat) : Int)]) ∧ winG (ws.drop i) a b = win ws) ⟨_, 0, 0, rfl, s1, upd_same, rfl⟩ (fun i σ H' _ ⟨g, a, b, _, s2, _⟩ => SqL.of (s2 _ _ hl)) ?_ ?_⟩
  · rintro i x σ H' hx ⟨g, a, b, rfl, s2, hSS, hg⟩
    obtain ⟨k, rfl, hk⟩ := ws_at hx
    rw [drop_get hk] at hg
    unfold winG at hg
    obtain rfl | rfl := hw k (List.mem_of_getElem? hk)
    · rw [if_pos rfl] at hg
      refine ⟨_, rfl, _, rfl, S, _, 0, _, rfl, rfl, SqL.of hSS, rfl, _, _, rfl, rfl, S, [V.int ((a : Nat) : Int), V.int ((b : Nat) : Int)], _, 0, rfl, rfl, hSS, rfl, ?_⟩
      have s3 : Same H (upd H' S (.lst [V.int ((a : Nat) + 1 : Int), V.int ((b : Nat) : Int)])) := same_upd s2 hS
      refine ⟨_, rfl, _, rfl, S, _, _, _, rfl, rfl, SqL.of upd_same, rfl, rfl, _, rfl, ?_⟩
      by_cases c : a = 1
      · subst c
        rw [if_pos rfl] at hg
        refine iteT' (by decide) ⟨_, rfl, ?_⟩
        have := q _ s3
        rw [← hg] at this
        exact this
      · rw [if_neg c] at hg
        refine iteF' (decide_eq_false fun e => c (by have e : V.int ((a : Int) + 1) = V.int 2 := e; injection e with e; omega)) ?_
        exact ⟨_, a + 1, b, rfl, s3, upd_same, hg⟩
    · rw [if_neg (by decide)] at hg
      refine ⟨_, rfl, _, rfl, S, _, 1, _, rfl, rfl, SqL.of hSS, rfl, _, _, rfl, rfl, S, [V.int ((a : Nat) : Int), V.int ((b : Nat) : Int)], _, 1, rfl, rfl, hSS, rfl, ?_⟩
      have s3 : Same H (upd H' S (.lst [V.int ((a : Nat) : Int), V.int ((b : Nat) + 1 : Int)])) := same_upd s2 hS
      refine ⟨_, rfl, _, rfl, S, _, _, _, rfl, rfl, SqL.of upd_same, rfl, rfl, _, rfl, ?_⟩
      by_cases c : b = 1
      · subst c
        rw [if_pos rfl] at hg
        refine iteT' (by decide) ⟨_, rfl, ?_⟩
        have := q _ s3
        rw [← hg] at this
        exact this
      · rw [if_neg c] at hg
        refine iteF' (decide_eq_false fun e => c (by have e : V.int ((b : Int) + 1) = V.int 2 := e; injection e with e; omega)) ?_
        exact ⟨_, a, b + 1, rfl, s3, upd_same, hg⟩
  · rintro σ H' ⟨g, a, b, rfl, s2, _, hg⟩
    rw [List.length_map, List.drop_length] at hg
    have := q _ s2
    rw [← hg] at this
    exact this
abbrev nBW : List Str := ["thing", "won", "hand"]
theorem sc_bw : FnScope nBW ["thing"] (defScope s_is_boxed_weaving) := ⟨rfl, rfl, rfl, by decide +kernel, rfl, by decide +kernel, by decide +kernel⟩
theorem ok_bw {f g1 g2 : Addr} {fd d1 d2 : FuncData} (F : Fun K "is_boxed_weaving" "is_boxed_weaving" s_is_boxed_weaving f fd) (T : Txt K mg) (T2 : Txt2 K mg) (U : TxtH K mg) (B : TxtB K mg) (WH : Def P w K mg base "is_hand" ["thing"] 3 (spHandG K) g1 d1)
    (Wn : Def P w K mg base "winner" ["weaving"] 1 spWin g2 d2) : FnOk P w K mg base CX0 4 f fd ["thing"] spBW := by
  refine F.ok sc_bw (fun vs H Q E h => ?_) (fun cdv A outer s H vs Q E hr h => ?_)
  · obtain ⟨l, ws, rfl, _⟩ := h
    rfl
  obtain ⟨l, ws, rfl, hl, hw, hn, q⟩ := h
  have nd := sc_bw.nd
  obtain ⟨t2, m2⟩ := B.two
  obtain ⟨t3, m3⟩ := B.three
  obtain ⟨hT, mH, hH⟩ := U.hands
  refine ⟨_, (pss_cons (ps_if (PW.pt (pw_or (pt_not (pt_val (pe_callB call_isi (by rfl) T.isi boot_isinstance (pa_cons (pv 0) (pa_cons (pe_bltn (v := .ty "list") (by rfl) T.list boot_list rfl) pa_nil))))) (pw_or1 (pt_not (pt_val (pe_callB (cr_all rfl) (by rfl) T.all (by decide +kernel) (pa_cons (pe_lc (own := [("hand", 2)]) (g := (gName 2)) (tt := tYes) (te := (tCall (spHandG K) [] E0 (tCons (tVar 2) tNil))) rfl nd (pi_list (pv 0)) (blkOk_by (N := nBW) (sc := defScope s_is_boxed_weaving) (by decide +kernel)) (fun _ _ _ _ _ => (by exact (pg_name (i := 2) nd rfl (Or.inl rfl)))) (fun _ _ _ _ _ => pts_nil) (fun _ _ _ _ _ => (by exact (pe_call WH.G (hr.mono (by decide)) rfl WH.m WH.k WH.b .nil pass0 (pa_cons (pv 2) pa_nil))))) pa_nil)))))))
      (pss_one (ps_ret pe_bl))
      pss_nil)
    (pss_cons (ps_if (pt_cmpR op_gt (pe_callB (cr_max rfl) (by rfl) T2.max (by decide +kernel) (pa_cons (pe_lc (own := [("hand", 2)]) (g := (gName 2)) (tt := tYes) (te := (tBM K "list" (rCntI K) (tVar 0) (tCons (tVar 2) tNil))) rfl nd (pi_tup (pe_glob (v := .ref hT) rfl mH rfl)) (blkOk_by (N := nBW) (sc := defScope s_is_boxed_weaving) (by decide +kernel)) (fun _ _ _ _ _ => (by exact (pg_name (i := 2) nd rfl (Or.inl rfl)))) (fun _ _ _ _ _ => pts_nil) (fun _ _ _ _ _ => (by exact (pe_bm PySem.F.plainAttrs_list PySem.F.slot_list_count PySem.F.type_list_count mt_lcount (pv 0) (pa_cons (pv 2) pa_nil))))) pa_nil)) (pe_glob (v := .int 3) rfl m3 ⟨_, rfl⟩) (nomark _))
      (pss_one (ps_ret pe_bl))
      pss_nil)
    (pss_cons (ps_set (i := 1) nd rfl (Or.inl rfl) (pe_call Wn.G (hr.mono (by decide)) rfl Wn.m Wn.k Wn.b .nil pass0 (pa_cons (pv 0) pa_nil)))
    (pss_one (ps_ret (pe_or (pe_cmpR op_isN (pv 1) pe_non (nomark _)) (pe_one (pe_cmpR op_eq (pe_bm PySem.F.plainAttrs_list PySem.F.slot_list_count PySem.F.type_list_count mt_lcount (pv 0) (pa_cons (pv 1) pa_nil)) (pe_glob (v := .int 2) rfl m2 ⟨_, rfl⟩) (nomark _))))))))), ?_⟩
  refine ⟨_, rfl, V.ref l, .ty "list", .type "list", .type "list", true, rfl, .ty "list", .base (.lst hl), kit_ty (by decide +kernel), _, rfl, iteF ?_⟩
  refine ⟨_, rfl, l, rfl, ⟨_, SqL.of hl⟩, fun L hL => ?_⟩
  refine list_turns (xs := ws.map V.int) (fun i H' => Same H H' ∧ H' L = some (.lst ((List.replicate i true).map V.bl))) ⟨same_new hL _, upd_same⟩ (fun i H' _ h => h.1.seq (SqL.of hl)) ?_ ?_
  · rintro i x H' hx ⟨s3, h3⟩
    obtain ⟨k, rfl, hk⟩ := ws_at hx
    refine ⟨rfl, _, rfl, _, _, rfl, .int _, ?_⟩
    rw [show within (.int k) 0 1 = true by obtain rfl | rfl := hw k (List.mem_of_getElem? hk) <;> rfl]
    refine ⟨_, h3, ?_, same_upd s3 hL, by rw [upd_same, rep_snoc]⟩
    rw [List.length_map, List.length_replicate]
    have := (List.getElem?_eq_some_iff.mp hk).1
    exact Nat.lt_of_lt_of_le (show i < 100 by omega) (by decide)
  · rintro H3 ⟨s3, h3⟩
    refine ⟨L, _, rfl, SqL.of h3, ?_⟩
    rw [all_true]
    refine ⟨_, rfl, iteF ?_⟩
    refine ⟨hT, rfl, ⟨_, hH _⟩, fun D hD => ?_⟩
    refine tup_turns (xs := [V.int 0, V.int 1]) (fun i H' => Same H H' ∧ H' D = some (.lst (([((ws.count 0 : Nat) : Int), ((ws.count 1 : Nat) : Int)].take i).map V.int))) ⟨s3.trans (same_new hD _), upd_same⟩ (fun i H' _ _ => hH H') ?_ ?_
    · rintro i z H' hz ⟨s4, h4⟩
      obtain ⟨hi, rfl⟩ := hand_at hz
      refine ⟨rfl, _, rfl, .inl ⟨rfl, _, SqL.of (s4 _ _ hl)⟩, _, rfl, l, ws, _, rfl, rfl, SqL.of (s4 _ _ hl), _, h4, ?_, same_upd s4 (none_of_same s3 hD), ?_⟩
      · rw [List.length_map]
        exact Nat.lt_of_le_of_lt (List.length_take_le _ _) (Nat.lt_of_lt_of_le hi (by decide))
      · rw [upd_same]
        obtain rfl | rfl : i = 0 ∨ i = 1 := by omega
        · rfl
        · rfl
    · rintro H4 ⟨s4, h4⟩
      refine ⟨D, [((ws.count 0 : Nat) : Int), ((ws.count 1 : Nat) : Int)], rfl, SqL.of h4, Nat.zero_lt_two, fun m hm hle => ?_⟩
      have hmax : (m > 3) ↔ ¬ (ws.count 0 ≤ 3 ∧ ws.count 1 ≤ 3) := by
        have h0 := hle _ List.mem_cons_self
        have h1 := hle _ (List.mem_cons_of_mem _ List.mem_cons_self)
        rcases List.mem_cons.mp hm with rfl | hm
        · omega
        · obtain rfl := List.mem_singleton.mp hm
          omega
      refine ⟨_, _, rfl, rfl, _, rfl, ?_⟩
      by_cases c : ws.count 0 ≤ 3 ∧ ws.count 1 ≤ 3
      case neg =>
        refine iteT' (decide_eq_true (hmax.mpr c)) ?_
        have := q _ s4
        rw [show wbB ws = false by
          unfold wbB
          rw [← Bool.decide_and, decide_eq_false c, Bool.false_and]] at this
        exact this
      refine iteF' (decide_eq_false fun e => hmax.mp e c) ?_
      refine ⟨_, rfl, l, ws, rfl, s4 _ _ hl, hw, fun H5 s5 => ?_⟩
      have s45 := s4.trans s5
      have q := q _ s45
      have e0 : wbB ws = (match win ws with
        | none => true
        | some h => decide (ws.count ((h : Nat) : Int) = 2)) := by
        unfold wbB
        rw [← Bool.decide_and, decide_eq_true c, Bool.true_and]
      rw [e0] at q
      cases hwn : win ws with
      | none =>
        rw [hwn] at q
        exact ⟨_, rfl, rfl, _, rfl, iteT q⟩
      | some h =>
        rw [hwn] at q
        refine ⟨_, rfl, rfl, _, rfl, iteF ⟨_, rfl, .inl ⟨rfl, _, SqL.of (s45 _ _ hl)⟩, _, rfl, l, ws, _, rfl, rfl, SqL.of (s45 _ _ hl), rfl, ?_⟩⟩
        have e1 : decide (V.int ((ws.count ((h : Nat) : Int) : Nat) : Int) = V.int 2) = decide (ws.count ((h : Nat) : Int) = 2) := dec_nat
        rw [e1]
        exact q
end
end TB

set_option Elab.async false
set_option maxRecDepth 100000
set_option maxHeartbeats 4000000
namespace TB
open TA PySem L2 PyProof.Rows
set_option linter.unusedVariables false
structure RaiseC (K : PySem.W.Frag) (mg : Str → Option Value) (n : Str) (C : Addr) : Prop where
  m : mg n = some (.ref C)
  x : PySem.W.excIn K C [.type "ValueError", .type "Exception", .type "BaseException", .type "object"] "ValueError.__new__" = true
  k : PySem.W.keepIn K (.ref C) = true
  b : PySem.W.subIn K (.ref C) (.type "BaseException") = some true
  t : PySem.W.typeIn K (.ref C) = some (.type "type")
def oI : Option Int → V
  | none => .non
  | some i => .int i
/-- what a hand tells alone -/
def chO (ch : Nat → List Int) (h : Nat) (p : IP) : Int := (ch h).getD (sel h p) 0
/-- what a hand tells behind a weaving with a box -/
def tellO (ch : Nat → List Int) (an : Nat → IP × List (Int × Int) → Int) (ws : List Int) (e : IP × List (Int × Int)) (h : Nat) : Option Int := if win ws = some h then some (chO ch h e.1) else if ws.count ((h : Nat) : Int) = 3 then some (an h e) else none
def spTell (C cW : Addr) : Sp := fun vs H Q E => ∃ (p t : Addr) (T : TD) (ch : Nat → List Int) (an : Nat → IP × List (Int × Int) → Int) (al ans d0 d1 tt lw : Addr) (ws : List Int) (e : IP × List (Int × Int)), vs = [.ref p, .ref t, .ref tt, .ref lw] ∧ WFS T ∧ BxF C H p t T ch an al ans d0 d1 ∧ e ∈ T.bo ∧ TpAt H (.ref tt) (iI e.1) ∧
  H lw = some (.lst (ws.map V.int)) ∧ HW ws ∧ ws.length ≤ 20 ∧ (wbB ws = false → ∀ H', Same H H' → E (.ref cW) none H') ∧
  (wbB ws = true → ∀ (r : Addr) (H' : Hp), Same H H' → H' r = some (.tup [oI (tellO ch an ws e 0), oI (tellO ch an ws e 1)]) → Q (.ref r) H')
section
variable {P : Program} {w : World} {K : PySem.W.Frag} {mg : Str → Option Value} {base : Heap}
abbrev nTell : List Str := ["task", "boxed", "inputs", "weaving", "alone", "answers", "won", "told", "hand"]
theorem sc_tell : FnScope nTell ["task", "boxed", "inputs", "weaving"] (defScope s_tell_boxed) := ⟨rfl, rfl, rfl, by decide +kernel, rfl, by decide +kernel, by decide +kernel⟩
theorem oN_eq {o : Option Nat} {h : Nat} : (V.int ((h : Nat) : Int) = oN o) ↔ o = some h := by
  cases o with
  | none => exact ⟨fun e => (by cases e), fun e => (by cases e)⟩
  | some k =>
    constructor
    · intro e
      injection e with e
      have : h = k := by omega
      rw [this]
    · intro e
      cases e
      rfl
theorem ixN_two {h : Nat} (hh : h < 2) : ixN 2 (h : Int) = some h := by
  obtain rfl | rfl : h = 0 ∨ h = 1 := by omega
  · rfl
  · rfl
theorem ok_tell {f g1 g2 g3 g4 C cW : Addr} {fd d1 d2 d3 d4 : FuncData} (F : Fun K "tell_boxed" "tell_boxed" s_tell_boxed f fd) (T : Txt K mg) (U : TxtH K mg) (B3 : TxtB K mg) (R3 : RaiseC K mg "NoWeaving" cW) (WIB : Def P w K mg base "is_boxed" ["task", "thing"] 6 (spIsBoxed K C) g1 d1)
    (WP : Def P w K mg base "is_pair" ["task", "thing"] 4 (spPair K C) g2 d2) (WBW : Def P w K mg base "is_boxed_weaving" ["thing"] 4 spBW g3 d3) (Wn : Def P w K mg base "winner" ["weaving"] 1 spWin g4 d4) : FnOk P w K mg base (L2.CX P w) 7 f fd ["task", "boxed", "inputs", "weaving"] (spTell C cW) := by
  refine F.okX sc_tell (fun vs H Q E h => ?_) (fun cdv A outer s H vs Q E hr h => ?_)
  · obtain ⟨p, t, D, ch, an, al, ans, e0, e1, tt, lw, ws, e, rfl, _⟩ := h
    rfl
  obtain ⟨p, t, D, ch, an, al, ans, e0, e1, tt, lw, ws, e, rfl, hW, B, he, htt, hlw, hw, hn, q1, q2⟩ := h
  have nd := sc_tell.nd
  have hu := hu_of hr
  obtain ⟨t3, m3⟩ := B3.three
  obtain ⟨hT, mH, hH⟩ := U.hands
  refine ⟨_, (pss_cons (ps_if (pt_not (pt_val (pe_call WIB.G (hr.mono (by decide)) rfl WIB.m WIB.k WIB.b .nil pass0 (pa_cons (pv 0) (pa_cons (pv 1) pa_nil)))))
      pss_never
      pss_nil)
    (pss_cons (ps_if (pt_not (pt_val (pe_call WP.G (hr.mono (by decide)) rfl WP.m WP.k WP.b .nil pass0 (pa_cons (pv 0) (pa_cons (pv 2) pa_nil)))))
      pss_never
      pss_nil)
    (pss_cons (ps_if (pt_not (pt_val (pe_call WBW.G (hr.mono (by decide)) rfl WBW.m WBW.k WBW.b .nil pass0 (pa_cons (pv 3) pa_nil))))
      (pss_one (ps_raise rfl (takes_of rfl rfl rfl rfl) (pmk_own PySem.F.excBase_ValueError R3.x R3.m R3.k (raises_own R3.b R3.t) (by exact rfl))))
      pss_nil)
    (PSs.nox (pss_cons (ps_asg (pv 1) (pg_tup (by rfl) (pgs_cons (pg_name (i := 4) nd rfl (Or.inl rfl)) (pgs_cons (pg_name (i := 5) nd rfl (Or.inl rfl)) pgs_nil))))
    (pss_cons (ps_set (i := 6) nd rfl (Or.inl rfl) (pe_call Wn.G (hr.mono (by decide)) rfl Wn.m Wn.k Wn.b .nil pass0 (pa_cons (pv 3) pa_nil)))
    (pss_cons (ps_set (i := 7) nd rfl (Or.inl rfl) (pe_lst (pa_cons pe_non (pa_cons pe_non pa_nil))))
    (pss_cons (ps_for PassesOwn.never (by rfl) (pi_tup (pe_glob (v := .ref hT) rfl mH rfl)) (pg_name (i := 8) nd rfl (Or.inl rfl))
      (pss_one (ps_if (pt_cmpR op_eq (pv 8) (pv 6) (nomark _))
      (pss_one (ps_asg (pe_ix ix_list (pe_ix ix_list (pv 4) (pv 8) (fun _ _ => rfl)) (pe_ix ix_tup (pv 2) (pv 8) (fun _ _ => rfl)) (fun _ _ => rfl)) (pg_sub (pv 7) (pv 8) set_list)))
      (pss_one (ps_if (pt_cmpR op_eq (pe_bm PySem.F.plainAttrs_list PySem.F.slot_list_count PySem.F.type_list_count mt_lcount (pv 3) (pa_cons (pv 8) pa_nil)) (pe_glob (v := .int 3) rfl m3 ⟨_, rfl⟩) (nomark _))
      (pss_one (ps_asg (pe_dget hu (pe_ix ix_list (pv 5) (pv 8) (fun _ _ => rfl)) (pv 2) (fun _ _ => rfl)) (pg_sub (pv 7) (pv 8) set_list)))
      pss_nil)))))
    (pss_one (ps_ret (pe_callTy call_tuple_of (by rfl) T.tuple boot_tuple (pa_cons (pv 7) pa_nil)))))))))))), ?_⟩
  refine ⟨_, rfl, _, rfl, p, t, D, ch, an, al, ans, e0, e1, rfl, hW, B, fun H1 s1 => ⟨true, rfl, iteF ?_⟩⟩
  have B1 := B.mono s1
  refine ⟨_, rfl, _, rfl, p, _, D, iI e.1, rfl, B1.x0.task, hW, htt.mono (.same s1), fun H2 s2 => ?_⟩
  rw [hasK_yes he]
  have s12 := s1.trans s2
  refine ⟨true, rfl, iteF ⟨_, rfl, lw, ws, rfl, s12 _ _ hlw, hw, hn, fun H3 s3 => ?_⟩⟩
  have s13 := s12.trans s3
  cases cw : wbB ws with
  | false => exact ⟨false, rfl, iteT (q1 cw _ s13)⟩
  | true =>
    have q := q2 cw
    refine ⟨true, rfl, iteF ?_⟩
    have B3 := B.mono s13
    refine ⟨_, rfl, t, _, rfl, SqT.of B3.ht, rfl, _, _, rfl, _, _, rfl, rfl, ?_⟩
    refine ⟨_, rfl, lw, ws, rfl, s13 _ _ hlw, hw, fun H4 s4 => ?_⟩
    have s14 := s13.trans s4
    refine ⟨(by show 2 ≤ sizeLine; decide), fun S hS => ?_⟩
    have s5 := same_new hS (.lst [V.non, V.non])
    refine ⟨hT, rfl, ⟨_, hH _⟩, for_tup (xs := [V.int 0, V.int 1]) (fun i σ H' => ∃ g, σ = [some (.ref p), some (.ref t), some (.ref tt), some (.ref lw), some (.ref al), some (.ref ans), some (oN (win ws)), some (.ref S), g] ∧ Same H H' ∧ H' S = some (.lst [if 0 < i then oI (tellO ch an ws e 0) else .non, if 1 < i then oI (tellO ch an ws e 1) else .non])) ⟨_, rfl, s14.trans s5, upd_same⟩ (fun i σ H' _ _ => hH H') ?_ ?_⟩
    · rintro i z σ H' hz ⟨g, rfl, s6, hSS⟩
      obtain ⟨hi, rfl⟩ := hand_at hz
      have B6 := B.mono s6
      have hSn : H S = none := none_of_same s14 hS
      have fin : ∀ v, v = oI (tellO ch an ws e i) → (upd H' S (.lst (([if 0 < i then oI (tellO ch an ws e 0) else .non, if 1 < i then oI (tellO ch an ws e 1) else .non] : List V).set i v))) S = some (.lst [if 0 < i + 1 then oI (tellO ch an ws e 0) else .non, if 1 < i + 1 then oI (tellO ch an ws e 1) else .non]) := by
        rintro v rfl
        rw [upd_same]
        obtain rfl | rfl : i = 0 ∨ i = 1 := by omega
        · rfl
        · rfl
      obtain ⟨ttt, ett, htt'⟩ := htt.mono (.same s6)
      obtain rfl : tt = ttt := by injection ett
      refine ⟨_, rfl, _, rfl, (by cases win ws <;> rfl), _, rfl, ?_⟩
      by_cases c : win ws = some i
      · refine iteT' (decide_eq_true (oN_eq.mpr c)) ?_
        obtain ⟨ta, xs, ea, hta, ar⟩ := B6.hal
        obtain rfl : al = ta := by injection ea
        obtain ⟨x, hx, rr, rfl, hrow⟩ := ar.at (i := i) (y := ch i) (by
          obtain rfl | rfl : i = 0 ∨ i = 1 := by omega
          · rfl
          · rfl)
        obtain ⟨rg0, rg1⟩ := hW.rng e he
        have hsl : sel i e.1 < (ch i).length := by
          rw [B.len i hi]
          obtain rfl | rfl : i = 0 ∨ i = 1 := by omega
          · exact rg0
          · exact rg1
        have gw : ((ch i).map V.int)[sel i e.1]? = some (.int (chO ch i e.1)) := by
          unfold chO
          rw [List.getElem?_map, List.getD_eq_getElem?_getD, List.getElem?_eq_getElem hsl]
          rfl
        refine ⟨_, rfl, _, rfl, al, _, _, _, rfl, rfl, SqL.of hta, atI_nat hx, _, rfl, _, rfl, tt, _, _, _, rfl, rfl, SqT.of htt', atI_nat (iI_at hi e.1), rr, _, _, _, rfl, rfl, SqL.of hrow, atI_nat gw, ?_⟩
        refine ⟨_, rfl, _, rfl, S, _, _, i, rfl, rfl, hSS, (ixN_two hi), ?_⟩
        refine ⟨_, rfl, same_upd s6 hSn, fin _ ?_⟩
        unfold tellO
        rw [if_pos c]
        rfl
      · refine iteF' (decide_eq_false fun h => c (oN_eq.mp h)) ?_
        refine ⟨_, rfl, .inl ⟨rfl, _, SqL.of (s6 _ _ hlw)⟩, _, rfl, lw, ws, _, rfl, rfl, SqL.of (s6 _ _ hlw), rfl, _, rfl, ?_⟩
        by_cases c3 : ws.count ((i : Nat) : Int) = 3
        · refine iteT' (decide_eq_true (by rw [c3]; rfl)) ?_
          obtain ⟨d, hd1, hd2⟩ : ∃ d, ([V.ref e0, V.ref e1] : List V)[i]? = some (.ref d) ∧ H' d = some (.dT (anKV an i D.bo)) := by
            obtain rfl | rfl : i = 0 ∨ i = 1 := by omega
            · exact ⟨e0, rfl, B6.h0⟩
            · exact ⟨e1, rfl, B6.h1⟩
          have dg : DGet H' d (.ref tt) (some (.int (an i e))) := (anKV_at hW.srtN an i e he) ▸ DGet.t (k := kI e.1) hd2 htt'
          refine ⟨_, rfl, _, rfl, ans, _, _, _, rfl, rfl, SqL.of B6.hans, atI_nat hd1, _, rfl, d, _, rfl, dg, ?_⟩
          refine ⟨_, rfl, _, rfl, S, _, _, i, rfl, rfl, hSS, (ixN_two hi), ?_⟩
          refine ⟨_, rfl, same_upd s6 hSn, fin _ ?_⟩
          unfold tellO
          rw [if_neg c, if_pos c3]
          rfl
        · refine iteF' (decide_eq_false fun h => c3 (by injection h with h; omega)) ?_
          refine ⟨_, rfl, s6, ?_⟩
          have e0 : tellO ch an ws e i = none := by
            unfold tellO
            rw [if_neg c, if_neg c3]
          rw [hSS]
          obtain rfl | rfl : i = 0 ∨ i = 1 := by omega
          · rw [e0]; rfl
          · rw [e0]; rfl
    · rintro σ H' ⟨g, rfl, s6, hSS⟩
      refine ⟨_, rfl, S, _, rfl, .inl ⟨SqL.of hSS, fun r hr => ?_⟩⟩
      exact q r _ (s6.trans (same_new hr _)) upd_same
end
end TB

set_option Elab.async false
set_option maxRecDepth 100000
set_option maxHeartbeats 1600000
namespace TB
open TA PySem L2 PyProof.Rows
set_option linter.unusedVariables false
theorem headD_mem {l : List Int} (h : l ≠ []) : l.headD 0 ∈ l := by
  cases l with
  | nil => exact absurd rfl h
  | cons x r => exact List.mem_cons_self
theorem ans_in {T : TD} (W : WFS T) {ch : Nat → List Int} (hl : ∀ h, h < 2 → (ch h).length = (T.al h).length) (hg : ∀ h a, h < 2 → a < (T.al h).length → goodS T h a ((ch h).getD a 0)) {h : Nat} (hh : h < 2) {e : IP × List (Int × Int)} (he : e ∈ T.bo) : okAns ch (ansO ch) h e ∧ okOut (ansO ch h e) := by
  have m : ansO ch h e ∈ ansL ch h e := headD_mem (ansL_ne W hl hg hh e he)
  unfold ansL at m
  obtain ⟨o, ho, e1⟩ := List.mem_map.mp m
  obtain ⟨ho1, ho2⟩ := List.mem_filter.mp ho
  have ho2 := of_decide_eq_true ho2
  have hb := (W.lets e he).2.2.2 o ho1
  refine ⟨?_, ?_⟩
  · unfold okAns
    have : pairO h (ansO ch h e) (wonO ch h e.1) = o := by
      rw [← e1, ← ho2]
      obtain rfl | rfl : h = 0 ∨ h = 1 := by omega
      · rfl
      · rfl
    rw [this]
    exact ho1
  · rw [← e1]
    obtain rfl | rfl : h = 0 ∨ h = 1 := by omega
    · exact hb.1
    · exact hb.2

theorem ansKV_congr {ch ch' : Nat → List Int} {h : Nat} (e : ch (1 - h) = ch' (1 - h)) (bo : BD) : ansKV ch h bo = ansKV ch' h bo := by
  unfold ansKV ansO ansL wonO
  rw [e]
theorem good_same {T : TD} {ch ch' : Nat → List Int} (hl : ∀ h, h < 2 → (ch h).length = (T.al h).length) (hl' : ∀ h, h < 2 → (ch' h).length = (T.al h).length) (hg : ∀ h a, h < 2 → a < (T.al h).length → goodS T h a ((ch h).getD a 0)) (hg' : ∀ h a, h < 2 → a < (T.al h).length → goodS T h a ((ch' h).getD a 0)) : ∀ h, h < 2 → ch h = ch' h := fun h hh => by
  refine List.ext_getElem (by rw [hl h hh, hl' h hh]) fun i h1 h2 => ?_
  have l := hl h hh
  have e1 := (hg h i hh (by omega)).2.2
  have e2 := (hg' h i hh (by omega)).2.2
  rw [e1] at e2
  injection e2 with e2
  rw [List.getD_eq_getElem?_getD, List.getElem?_eq_getElem h1, List.getD_eq_getElem?_getD, List.getElem?_eq_getElem h2] at e2
  exact e2
theorem ansKV_keys (ch : Nat → List Int) (h : Nat) {bo : BD} (u : (bo.map (·.1)).Pairwise (· ≠ ·)) : ((ansKV ch h bo).map (·.1)).Pairwise (· ≠ ·) := by
  unfold ansKV
  rw [List.map_map]
  refine List.pairwise_map.mpr ((List.pairwise_map.mp u).imp fun {a b} ne c => ne (kI_inj c))
theorem val_memK : ∀ {kvs : List (List Key × V)}, (kvs.map (·.1)).Pairwise (· ≠ ·) → ∀ kv ∈ kvs, valV kvs kv.1 = some kv.2
  | [], _, _, m => (nomatch m)
  | x :: r, h, kv, m => by
    rw [List.map_cons, List.pairwise_cons] at h
    rcases List.mem_cons.mp m with rfl | m
    · exact valV_pos rfl
    · rw [valV_neg (h.1 _ (List.mem_map_of_mem m))]
      exact val_memK h.2 kv m
/-- two dicts of ints with the same rows are equal -/
theorem eqx_kvs {K : PySem.W.Frag} {H : Hp} {n : Nat} {d d' : Addr} {kvs : List (List Key × V)} (h : H d = some (.dT kvs)) (h' : H d' = some (.dT kvs)) (u : (kvs.map (·.1)).Pairwise (· ≠ ·)) (iv : ∀ p ∈ kvs, ∃ i : Int, p.2 = .int i) : EqX K H (n + 2) (.ref d) (.ref d') true :=
  .inr (.inr ⟨.inr (.inr ⟨d, d', kvs, kvs, fun _ => true, rfl, rfl, h, h', fun _ p hp => .inr ⟨p.2, val_memK u p hp, by
    obtain ⟨i, e⟩ := iv p hp
    rw [e]
    exact .inl ⟨.int i, .int i, .int i, .int i, (ok_int (n := 0) i).shaped (by decide), (ok_int (n := 0) i).shaped (by decide), (SeqAt.eqv_refl _ (SeqAt.canLay_of_shaped ((ok_int (n := 0) i).shaped (by decide)))).symm⟩⟩, by simp⟩), fun _ => rfl⟩)
theorem rcx_tup2 {K : PySem.W.Frag} {H : Hp} {F : V → V → Bool → Prop} {t t' : Addr} {x y x' y' : V} (h : H t = some (.tup [x, y])) (h' : H t' = some (.tup [x', y'])) (a : F x x' true) (b : F y y' true) : RcX K H F (.ref t) (.ref t') true :=
  .inr (.inl ⟨t, t', _, _, fun _ => true, rfl, rfl, SqT.of h, SqT.of h', fun j u v hu hv => by
    match j, hu, hv with
    | 0, hu, hv => cases hu; cases hv; exact a
    | 1, hu, hv => cases hu; cases hv; exact b, rfl⟩)
theorem rcx_lst2 {K : PySem.W.Frag} {H : Hp} {F : V → V → Bool → Prop} {t t' : Addr} {x y x' y' : V} (h : H t = some (.lst [x, y])) (h' : H t' = some (.lst [x', y'])) (a : F x x' true) (b : F y y' true) : RcX K H F (.ref t) (.ref t') true :=
  .inl ⟨t, t', _, _, fun _ => true, rfl, rfl, SqL.of h, SqL.of h', rfl, fun j u v hu hv => by
    match j, hu, hv with
    | 0, hu, hv => cases hu; cases hv; exact a
    | 1, hu, hv => cases hu; cases hv; exact b, rfl⟩
/-- what boxed tells, without its own tuple -/
structure BxT (H' : Hp) (T : TD) (ch : Nat → List Int) (t al an r0 r1 d0 d1 : Addr) : Prop where
  h_t : H' t = some (.tup [.ref al, .ref an])
  h_al : H' al = some (.lst [.ref r0, .ref r1])
  h_r0 : H' r0 = some (.lst ((ch 0).map .int))
  h_r1 : H' r1 = some (.lst ((ch 1).map .int))
  h_an : H' an = some (.lst [.ref d0, .ref d1])
  h_d0 : H' d0 = some (.dT (ansKV ch 0 T.bo))
  h_d1 : H' d1 = some (.dT (ansKV ch 1 T.bo))
theorem BxAt.t {H H' : Hp} {r : Addr} {T : TD} {ch : Nat → List Int} {t al an r0 r1 d0 d1 : Addr} (b : BxAt H H' r T ch t al an r0 r1 d0 d1) : BxT H' T ch t al an r0 r1 d0 d1 := ⟨b.h_t, b.h_al, b.h_r0, b.h_r1, b.h_an, b.h_d0, b.h_d1⟩
theorem BxT.mono {H H' : Hp} (s : Same H H') {T : TD} {ch : Nat → List Int} {t al an r0 r1 d0 d1 : Addr} (b : BxT H T ch t al an r0 r1 d0 d1) : BxT H' T ch t al an r0 r1 d0 d1 := ⟨s _ _ b.h_t, s _ _ b.h_al, s _ _ b.h_r0, s _ _ b.h_r1, s _ _ b.h_an, s _ _ b.h_d0, s _ _ b.h_d1⟩
theorem BxT.rows {H : Hp} {T : TD} {ch : Nat → List Int} {t al an r0 r1 d0 d1 : Addr} (b : BxT H T ch t al an r0 r1 d0 d1) : RowsAt H (.ref al) [ch 0, ch 1] := ⟨al, _, rfl, b.h_al, .cons ⟨r0, rfl, b.h_r0⟩ (.cons ⟨r1, rfl, b.h_r1⟩ .nil)⟩
theorem ans_ints (ch : Nat → List Int) (h : Nat) (bo : BD) : ∀ p ∈ ansKV ch h bo, ∃ i : Int, p.2 = .int i := fun p hp => by
  obtain ⟨e, _, rfl⟩ := List.mem_map.mp hp
  exact ⟨_, rfl⟩
theorem eqx_told {K : PySem.W.Frag} {H : Hp} {T : TD} {ch ch' : Nat → List Int} {t al an r0 r1 d0 d1 t' al' an' r0' r1' d0' d1' : Addr} (u : (T.bo.map (·.1)).Pairwise (· ≠ ·)) (b : BxT H T ch t al an r0 r1 d0 d1) (b' : BxT H T ch' t' al' an' r0' r1' d0' d1') (e : ∀ h, h < 2 → ch h = ch' h) : EqX K H 5 (.ref t) (.ref t') true := by
  have e0 := e 0 (by decide)
  have e1 := e 1 (by decide)
  have rows' := b'.rows
  rw [← e0, ← e1] at rows'
  have k0 := b'.h_d0
  have k1 := b'.h_d1
  rw [ansKV_congr (ch' := ch) e1.symm] at k0
  rw [ansKV_congr (ch' := ch) e0.symm] at k1
  refine .inr (.inr ⟨rcx_tup2 b.h_t b'.h_t (.inl ⟨_, _, b.rows.dp, rows'.dp, ?_, ?_, ?_⟩) (.inr (.inr ⟨rcx_lst2 b.h_an b'.h_an (eqx_kvs b.h_d0 k0 (ansKV_keys ch 0 u) (ans_ints ch 0 _)) (eqx_kvs b.h_d1 k1 (ansKV_keys ch 1 u) (ans_ints ch 1 _)), fun _ => rfl⟩)), fun _ => rfl⟩)
  · exact ((okD_rows _).shaped (by decide))
  · exact ((okD_rows _).shaped (by decide))
  · exact (SeqAt.eqv_refl _ (SeqAt.canLay_of_shaped ((okD_rows _).shaped (by decide)))).symm
theorem okS_ {n : Nat} {z : Str} (h : PyData.strOk z = true) : Ok (n + 1) (.str z) := ⟨by simp [PyData.canLay0, h], by simp [PyData.depth]⟩
theorem eqx_str {K : PySem.W.Frag} {H : Hp} {n : Nat} {z : Str} (h : PyData.strOk z = true) : EqX K H (n + 1) (.str z) (.str z) true := .inl ⟨.str z, .str z, .str z, .str z, (okS_ (n := 0) h).shaped (by decide), (okS_ (n := 0) h).shaped (by decide), (SeqAt.eqv_refl _ (SeqAt.canLay_of_shaped ((okS_ (n := 0) h).shaped (by decide)))).symm⟩
end TB

set_option Elab.async false
set_option maxRecDepth 100000
set_option maxHeartbeats 1600000
namespace TA
open PySem L2 PyProof.Rows
set_option linter.unusedVariables false
/-! tasks that are written out -/
def okRowB (r : List Int) : Bool := decide (1 ≤ r.length) && decide (r.length ≤ 60) && decide (r.Pairwise (· < ·)) && decide (∀ x ∈ r, okOut x)
theorem okRowB_of {r : List Int} (h : okRowB r = true) : okRow r := by
  unfold okRowB at h
  rw [Bool.and_eq_true, Bool.and_eq_true, Bool.and_eq_true] at h
  exact ⟨of_decide_eq_true h.1.1.1, of_decide_eq_true h.1.1.2, of_decide_eq_true h.1.2, of_decide_eq_true h.2⟩
def wfB (R0 R1 : List (List Int)) (bo : BD) : Bool := decide (1 ≤ R0.length ∧ R0.length ≤ 20 ∧ 1 ≤ R1.length ∧ R1.length ≤ 20) && (R0.all okRowB && (R1.all okRowB && (decide ((bo.map (·.1)).Pairwise (· ≠ ·)) && (bo.all (fun e => decide (e.1.1 < R0.length ∧ e.1.2 < R1.length) && okLetB e.2) &&
  ((List.range R0.length).all (fun a => bo.any fun e => decide (e.1.1 = a)) && ((List.range R1.length).all (fun a => bo.any fun e => decide (e.1.2 = a)) && decide (bo.length ≤ 60)))))))
theorem wfB_of {R0 R1 : List (List Int)} {bo : BD} (h : wfB R0 R1 bo = true) : WF ⟨fun k => if k = 0 then R0 else R1, bo⟩ := by
  unfold wfB at h
  simp only [Bool.and_eq_true] at h
  obtain ⟨h0, h1, h2, h3, h4, h5, h6, h7⟩ := h
  have h0 := of_decide_eq_true h0
  have h4 := List.all_eq_true.mp h4
  have rows : ∀ {R : List (List Int)}, R.all okRowB = true → ∀ r ∈ R, okRow r := fun g r hr => okRowB_of (List.all_eq_true.mp g r hr)
  refine ⟨fun k hk => ?_, fun k hk r hr => ?_, of_decide_eq_true h3, fun e he => ?_, fun e he => ?_, fun a ha => ?_, fun a ha => ?_, of_decide_eq_true h7⟩
  · dsimp only
    split
    · exact ⟨h0.1, h0.2.1⟩
    · exact ⟨h0.2.2.1, h0.2.2.2⟩
  · dsimp only at hr
    split at hr
    · exact rows h1 r hr
    · exact rows h2 r hr
  · have := h4 e he
    rw [Bool.and_eq_true] at this
    exact of_decide_eq_true this.1
  · have := h4 e he
    rw [Bool.and_eq_true] at this
    exact okLetB_of this.2
  · obtain ⟨e, he, k⟩ := List.any_eq_true.mp (List.all_eq_true.mp h5 a (List.mem_range.mpr ha))
    exact ⟨e, he, of_decide_eq_true k⟩
  · obtain ⟨e, he, k⟩ := List.any_eq_true.mp (List.all_eq_true.mp h6 a (List.mem_range.mpr ha))
    exact ⟨e, he, of_decide_eq_true k⟩
def lowB (R0 R1 : List (List Int)) (bo : BD) : Bool := R0.all (fun r => decide (r.length ≤ 7) && r.all fun x => decide (x ≤ 7)) && (R1.all (fun r => decide (r.length ≤ 7) && r.all fun x => decide (x ≤ 7)) && bo.all fun e => decide (e.2.length ≤ 14) && e.2.all fun p => decide (p.1 ≤ 7) && decide (p.2 ≤ 7))
theorem lowB_of {R0 R1 : List (List Int)} {bo : BD} (h : lowB R0 R1 bo = true) : Low ⟨fun k => if k = 0 then R0 else R1, bo⟩ := by
  unfold lowB at h
  simp only [Bool.and_eq_true] at h
  obtain ⟨h0, h1, h2⟩ := h
  have row : ∀ {rows : List (List Int)}, rows.all (fun r => decide (r.length ≤ 7) && r.all fun x => decide (x ≤ 7)) = true → ∀ r ∈ rows, r.length ≤ 7 ∧ ∀ x ∈ r, x ≤ 7 := fun g r hr => by
    have g := List.all_eq_true.mp g r hr
    rw [Bool.and_eq_true] at g
    exact ⟨of_decide_eq_true g.1, fun x hx => of_decide_eq_true (List.all_eq_true.mp g.2 x hx)⟩
  refine ⟨fun k hk r hr => ?_, fun e he => ?_⟩
  · dsimp only at hr
    split at hr
    · exact row h0 r hr
    · exact row h1 r hr
  · have g := List.all_eq_true.mp h2 e he
    rw [Bool.and_eq_true] at g
    exact ⟨of_decide_eq_true g.1, fun p hp => by
      have := List.all_eq_true.mp g.2 p hp
      rw [Bool.and_eq_true] at this
      exact ⟨of_decide_eq_true this.1, of_decide_eq_true this.2⟩⟩
/-- the house of the law -/
def houseB (t x : Int) : BD := [((0, 0), [(0, 0), (0, t), (t, t)]), ((0, 1), [(x, t)])]
def houseT (t : Nat) (x : Int) : TD := ⟨fun h => if h = 0 then [[0, (t : Int)]] else [rgI (t + 1), [(t : Int)]], houseB t x⟩
theorem house_cases {P : Nat → Int → Prop} (h : P 1 0 ∧ P 1 1 ∧ P 2 0 ∧ P 2 2 ∧ P 3 0 ∧ P 3 3) {t : Nat} {x : Int} (t1 : 1 ≤ t) (t3 : t ≤ 3) (hx : x = 0 ∨ x = (t : Int)) : P t x := by
  obtain ⟨a, b, c, d, e, f⟩ := h
  obtain rfl | rfl | rfl : t = 1 ∨ t = 2 ∨ t = 3 := by omega
  · rcases hx with rfl | rfl
    · exact a
    · exact b
  · rcases hx with rfl | rfl
    · exact c
    · exact d
  · rcases hx with rfl | rfl
    · exact e
    · exact f
section
variable {t : Nat} {x : Int} (t1 : 1 ≤ t) (t3 : t ≤ 3) (hx : x = 0 ∨ x = (t : Int))
include t1 t3 hx
theorem house_wf : WF (houseT t x) := wfB_of (house_cases (P := fun t x => wfB [[0, (t : Int)]] [rgI (t + 1), [(t : Int)]] (houseB t x) = true) (by decide +kernel) t1 t3 hx)
theorem house_low : Low (houseT t x) := lowB_of (house_cases (P := fun t x => lowB [[0, (t : Int)]] [rgI (t + 1), [(t : Int)]] (houseB t x) = true) (by decide +kernel) t1 t3 hx)
theorem house_srt : TB.WFS (houseT t x) := ⟨house_wf t1 t3 hx, by
  show List.Pairwise ltN [((0 : Nat), (0 : Nat)), (0, 1)]
  exact List.pairwise_pair.mpr (.inr ⟨rfl, by decide⟩)⟩
theorem house_can : ∀ h a, h < 2 → a < ((houseT t x).al h).length → TB.canB (houseT t x) h a = true := by
  have all := house_cases (P := fun t x => TB.canB (houseT t x) 0 0 = true ∧ TB.canB (houseT t x) 1 0 = true ∧ TB.canB (houseT t x) 1 1 = true) (by decide +kernel) t1 t3 hx
  intro h a hh ha
  obtain rfl | rfl : h = 0 ∨ h = 1 := by omega
  · have ha : a < 1 := ha
    obtain rfl : a = 0 := by omega
    exact all.1
  · have ha : a < 2 := ha
    obtain rfl | rfl : a = 0 ∨ a = 1 := by omega
    · exact all.2.1
    · exact all.2.2
end
theorem house_one {t : Nat} {x : Int} : ∀ h, h < 2 → ((houseT t x).al h).length * ((houseT t x).al h).length ≤ 20 := fun h hh => by
  obtain rfl | rfl : h = 0 ∨ h = 1 := by omega
  · show 1 * 1 ≤ 20; decide
  · show 2 * 2 ≤ 20; decide
end TA

set_option Elab.async false
set_option maxRecDepth 100000
set_option maxHeartbeats 1600000
namespace TA
open PySem L2 PyProof.Rows
set_option linter.unusedVariables false
/-- a heap seen at some places alone -/
def vw (p : Addr → Bool) (H : Hp) : Hp := fun b => if p b = true then H b else none
theorem vw_some {p : Addr → Bool} {H : Hp} {b : Addr} {o : HO} (h : vw p H b = some o) : p b = true ∧ H b = some o := by
  unfold vw at h
  split at h
  · rename_i c; exact ⟨c, h⟩
  · cases h
theorem vw_put {p : Addr → Bool} {H : Hp} {b : Addr} {o : HO} (c : p b = true) (h : H b = some o) : vw p H b = some o := by
  unfold vw
  rw [if_pos c, h]
theorem vw_kp {p : Addr → Bool} {H : Hp} : Kp (vw p H) H := fun b o _ h => (vw_some h).2
theorem vw_mono {p q : Addr → Bool} {H H' : Hp} (s : ∀ b o, p b = true → flatO o → H b = some o → q b = true ∧ H' b = some o) : Kp (vw p H) (vw q H') := fun b o f h => by
  obtain ⟨h1, h2⟩ := vw_some h
  obtain ⟨h3, h4⟩ := s b o h1 f h2
  exact vw_put h3 h4
/-- all but a -/
def pA (a : Addr) : Addr → Bool := fun b => decide (b ≠ a)
theorem pA_ok {a b : Addr} : pA a b = true ↔ b ≠ a := decide_eq_true_iff
theorem vwA_but {a : Addr} {H H' : Hp} (s : But a H H') : Kp (vw (pA a) H) (vw (pA a) H') := vw_mono fun b o h _ e => ⟨h, s b o (pA_ok.mp h) e⟩
theorem vwA_put {a d : Addr} {H : Hp} {k : List (List Key × V)} {o : HO} (e : H d = some (.dT k)) : Kp (vw (pA a) H) (vw (pA a) (upd H d o)) := vw_mono fun b u h f g => ⟨h, Kp.put e nf_dT b u f g⟩
def spHouse : Sp := fun vs H Q _ => ∃ (a : Addr) (n : Int), vs = [.ref a] ∧ Dr H a n ∧ 0 ≤ n ∧ n < 900000 ∧
  ∀ (r A d : Addr) (t : Nat) (x : Int) (H' : Hp), But a H H' → WellAt H' a (n + 2) → H' r = some (.tup [.ref A, .ref d]) → 1 ≤ t → t ≤ 3 → (x = 0 ∨ x = (t : Int)) → AlAt (vw (pA a) H') (.ref A) (houseT t x).al → (∃ kvs, H' d = some (.dT kvs) ∧ A2 (EnAt (vw (pA a) H')) kvs (houseB t x)) → Q (.ref r) H'
section
variable {P : Program} {w : World} {K : PySem.W.Frag} {mg : Str → Option Value} {base : Heap}
abbrev nHo : List Str := ["_law_state", "_law_top", "_law_rows", "_law_house_here"]
theorem sc_ho : FnScope nHo ["_law_state"] (defScope s__law_house) := ⟨rfl, rfl, rfl, by decide +kernel, rfl, by decide +kernel, by decide +kernel⟩
theorem ok_ho {f g1 : Addr} {fd d1 : FuncData} (F : Fun K "_law_house" "_law_house" s__law_house f fd) (T : Txt K mg) (Dg : Def P w K mg base "_law_digit" ["_law_state", "_law_base"] 1 spDigit g1 d1) : FnOk P w K mg base CX0 2 f fd ["_law_state"] spHouse := by
  refine F.ok sc_ho (fun vs H Q E h => ?_) (fun cdv A outer s H vs Q E hr h => ?_)
  · obtain ⟨a, n, rfl, _⟩ := h
    rfl
  obtain ⟨a, n, rfl, hD, hn0, hn, q⟩ := h
  have nd := sc_ho.nd
  have hu := hu_of hr
  refine ⟨_, (pss_cons (ps_set (i := 1) nd rfl (Or.inl rfl) (pe_op op_add pe_int (pe_call Dg.G (hr.mono (by decide)) rfl Dg.m Dg.k Dg.b .nil pass0 (pa_cons (pv 0) (pa_cons pe_int pa_nil)))))
    (pss_cons (ps_set (i := 2) nd rfl (Or.inl rfl) (pe_lst (pa_cons (pe_lst (pa_cons (pe_lst (pa_cons pe_int (pa_cons (pv 1) pa_nil))) pa_nil)) (pa_cons (pe_lst (pa_cons (pe_listRg rfl (by rfl) T.list (prg_1 (by rfl) T.range (pe_op op_add (pv 1) pe_int))) (pa_cons (pe_lst (pa_cons (pv 1) pa_nil)) pa_nil))) pa_nil))))
    (pss_cons (ps_set (i := 3) nd rfl (Or.inl rfl) (pe_dispT hu (pps_cons (pe_tup (pa_cons pe_int (pa_cons pe_int pa_nil))) (pe_lst (pa_cons (pe_tup (pa_cons pe_int (pa_cons pe_int pa_nil))) (pa_cons (pe_tup (pa_cons pe_int (pa_cons (pv 1) pa_nil))) (pa_cons (pe_tup (pa_cons (pv 1) (pa_cons (pv 1) pa_nil))) pa_nil)))) pps_nil) (by rfl) (by rfl) (fun h => nomatch h) (by decide +kernel)))
    (pss_cons (ps_dput hu (pv 3) (pe_tup (pa_cons pe_int (pa_cons pe_int pa_nil))) (pe_lst (pa_cons (pe_tup (pa_cons (pe_op op_mul (pe_call Dg.G (hr.mono (by decide)) rfl Dg.m Dg.k Dg.b .nil pass0 (pa_cons (pv 0) (pa_cons pe_int pa_nil))) (pv 1)) (pa_cons (pv 1) pa_nil))) pa_nil)) rfl)
    (pss_one (ps_ret (pe_tup (pa_cons (pv 2) (pa_cons (pv 3) pa_nil))))))))), ?_⟩
  refine ⟨_, rfl, a, n, 3, rfl, hD, hn0, by omega, by decide, by decide, fun r H1 r0 r1 b1 w1 => ⟨_, _, rfl, rfl, ?_⟩⟩
  obtain ⟨t, ht⟩ : ∃ t : Nat, 1 + r = (t : Int) := ⟨(1 + r).toNat, by omega⟩
  have t1 : 1 ≤ t := by omega
  have t3 : t ≤ 3 := by omega
  show gName 1 (V.int (1 + r)) _ _ _
  rw [ht]
  clear ht r0 r1
  have rg : RgOk 0 ((t : Int) + 1) := RgOk.of_le (by omega) (by omega) (by omega) (by omega)
  have erg : rgV 0 ((t : Int) + 1) = (rgI (t + 1)).map V.int := rgV_rgI (t + 1)
  refine ⟨_, rfl, (by show 2 ≤ sizeLine; decide), fun x0 hx0 => ⟨(by show 1 ≤ sizeLine; decide), fun w0 hw0 => ?_⟩⟩
  refine ⟨_, rfl, _, _, rfl, rfl, ((t : Int) + 1), rfl, rg, fun q0 hq0 => ?_⟩
  rw [erg]
  refine ⟨_, rfl, (by show 1 ≤ sizeLine; decide), fun x2 hx2 => ⟨(by show 2 ≤ sizeLine; decide), fun w2 hw2 => ⟨(by show 2 ≤ sizeLine; decide), fun A' hA' => ?_⟩⟩⟩
  have e1 := same_new hx0 (.lst [V.int 0, V.int (t : Int)])
  have e2 := same_new hw0 (.lst [V.ref x0])
  have e3 := same_new hq0 (.lst ((rgI (t + 1)).map V.int))
  have e4 := same_new hx2 (.lst [V.int (t : Int)])
  have e5 := same_new hw2 (.lst [V.ref q0, V.ref x2])
  have e6 := same_new hA' (.lst [V.ref w0, V.ref w2])
  have e36 := ((e3.trans e4).trans e5).trans e6
  have e16 := (e1.trans e2).trans e36
  have nm : ∀ {b : Addr}, H1 b = none → b ≠ a := fun h => (w1.ne h).symm
  have f0 : H1 x0 = none := hx0
  have f1 : H1 w0 = none := none_of_same e1 hw0
  have f2 : H1 q0 = none := none_of_same (e1.trans e2) hq0
  have f3 : H1 x2 = none := none_of_same ((e1.trans e2).trans e3) hx2
  have f4 : H1 w2 = none := none_of_same (((e1.trans e2).trans e3).trans e4) hw2
  have f5 : H1 A' = none := none_of_same ((((e1.trans e2).trans e3).trans e4).trans e5) hA'
  obtain ⟨M, hM⟩ : ∃ M, M = upd (upd (upd (upd (upd (upd H1 x0 (.lst [V.int 0, V.int (t : Int)])) w0 (.lst [V.ref x0])) q0 (.lst ((rgI (t + 1)).map V.int))) x2 (.lst [V.int (t : Int)])) w2 (.lst [V.ref q0, V.ref x2])) A' (.lst [V.ref w0, V.ref w2]) := ⟨_, rfl⟩
  have c0 : M x0 = some (.lst [V.int 0, V.int (t : Int)]) := by rw [hM]; exact (e2.trans e36) _ _ upd_same
  have c1 : M w0 = some (.lst [V.ref x0]) := by rw [hM]; exact e36 _ _ upd_same
  have c2 : M q0 = some (.lst ((rgI (t + 1)).map V.int)) := by rw [hM]; exact ((e4.trans e5).trans e6) _ _ upd_same
  have c3 : M x2 = some (.lst [V.int (t : Int)]) := by rw [hM]; exact (e5.trans e6) _ _ upd_same
  have c4 : M w2 = some (.lst [V.ref q0, V.ref x2]) := by rw [hM]; exact e6 _ _ upd_same
  have c5 : M A' = some (.lst [V.ref w0, V.ref w2]) := by rw [hM]; exact upd_same
  have sM : Same H1 M := by rw [hM]; exact e16
  rw [← hM]
  clear hM e1 e2 e3 e4 e5 e6 e36 e16 hx0 hw0 hq0 hx2 hw2 hA' erg rg
  have vp : ∀ {b : Addr} {o : HO}, H1 b = none → M b = some o → vw (pA a) M b = some o := fun f e => vw_put (pA_ok.mpr (nm f)) e
  have hA : ∀ x, AlAt (vw (pA a) M) (.ref A') (houseT t x).al := fun x => ⟨A', _, _, rfl, vp f5 c5, ⟨w0, _, rfl, vp f1 c1, .cons ⟨x0, rfl, vp f0 c0⟩ .nil⟩, ⟨w2, _, rfl, vp f4 c4, .cons ⟨q0, rfl, vp f2 c2⟩ (.cons ⟨x2, rfl, vp f3 c3⟩ .nil)⟩⟩
  clear vp f0 f1 f2 f3 f4 f5 c0 c1 c2 c3 c4 c5
  have wM := w1.same sM
  have bM := b1.trans (But.same sM)
  clear sM w1 b1 nm
  intro d hd
  have nda : d ≠ a := (wM.ne hd).symm
  have hdH : H d = none := by
    cases e : H d with
    | none => rfl
    | some o => rw [bM _ _ nda e] at hd; cases hd
  have a0 := same_new hd (.dT [])
  have hdd : (upd M d (.dT [])) d = some (.dT []) := upd_same
  refine ⟨(by show 2 ≤ sizeLine; decide), fun k0 hk0 => ⟨(by show 2 ≤ sizeLine; decide), fun u0 hu0 => ⟨_, rfl, (by show 2 ≤ sizeLine; decide), fun u1 hu1 => ⟨_, rfl, _, rfl, (by show 2 ≤ sizeLine; decide), fun u2 hu2 => ⟨(by show 3 ≤ sizeLine; decide), fun l0 hl0 => ?_⟩⟩⟩⟩⟩
  have y1 := same_new hk0 (.tup [V.int 0, V.int 0])
  have y2 := same_new hu0 (.tup [V.int 0, V.int 0])
  have y3 := same_new hu1 (.tup [V.int 0, V.int (t : Int)])
  have y4 := same_new hu2 (.tup [V.int (t : Int), V.int (t : Int)])
  have y5 := same_new hl0 (.lst [V.ref u0, V.ref u1, V.ref u2])
  obtain ⟨N, hN⟩ : ∃ N, N = upd (upd (upd (upd (upd (upd M d (.dT [])) k0 (.tup [V.int 0, V.int 0])) u0 (.tup [V.int 0, V.int 0])) u1 (.tup [V.int 0, V.int (t : Int)])) u2 (.tup [V.int (t : Int), V.int (t : Int)])) l0 (.lst [V.ref u0, V.ref u1, V.ref u2]) := ⟨_, rfl⟩
  have y15 := ((((a0.trans y1).trans y2).trans y3).trans y4).trans y5
  have sN : Same M N := by rw [hN]; exact y15
  have g0 : N d = some (.dT []) := by rw [hN]; exact ((((y1.trans y2).trans y3).trans y4).trans y5) _ _ hdd
  have g1 : N k0 = some (.tup [V.int 0, V.int 0]) := by rw [hN]; exact (((y2.trans y3).trans y4).trans y5) _ _ upd_same
  have g2 : N u0 = some (.tup [V.int 0, V.int 0]) := by rw [hN]; exact ((y3.trans y4).trans y5) _ _ upd_same
  have g3 : N u1 = some (.tup [V.int 0, V.int (t : Int)]) := by rw [hN]; exact (y4.trans y5) _ _ upd_same
  have g4 : N u2 = some (.tup [V.int (t : Int), V.int (t : Int)]) := by rw [hN]; exact y5 _ _ upd_same
  have g5 : N l0 = some (.lst [V.ref u0, V.ref u1, V.ref u2]) := by rw [hN]; exact upd_same
  have nN : ∀ {b : Addr}, M b = none → b ≠ a := fun h => (wM.ne h).symm
  have m2 : u0 ≠ a := nN (none_of_same (a0.trans y1) hu0)
  have m3 : u1 ≠ a := nN (none_of_same ((a0.trans y1).trans y2) hu1)
  have m4 : u2 ≠ a := nN (none_of_same (((a0.trans y1).trans y2).trans y3) hu2)
  have m5 : l0 ≠ a := nN (none_of_same ((((a0.trans y1).trans y2).trans y3).trans y4) hl0)
  rw [← hN]
  clear hN a0 y1 y2 y3 y4 y5 y15 hdd hk0 hu0 hu1 hu2 hl0 hd
  refine ⟨g0, [(kI (0, 0), .ref l0)], .cons ⟨⟨k0, rfl, g1⟩, rfl⟩ .nil, (by show 1 ≤ 15; decide), ?_⟩
  rw [merge1]
  have sX : Same M (upd N d (.dT [(kI (0, 0), .ref l0)])) → True := fun _ => trivial
  have kpd : Kp N (upd N d (.dT [(kI (0, 0), .ref l0)])) := Kp.put g0 nf_dT
  have hd1 : (upd N d (.dT [(kI (0, 0), .ref l0)])) d = some (.dT [(kI (0, 0), .ref l0)]) := upd_same
  have bN : But a H (upd N d (.dT [(kI (0, 0), .ref l0)])) := (bM.trans (But.same sN)).new hdH
  have wN := (wM.same sN).but (fun c => nda c.symm) (But.at (a := d) (H := N) (o := .dT [(kI (0, 0), .ref l0)]))
  have kvN : Kp (vw (pA a) N) (vw (pA a) (upd N d (.dT [(kI (0, 0), .ref l0)]))) := vwA_put g0
  have hA := fun x => ((hA x).mono (vwA_but (But.same sN))).mono kvN
  have hl1 : LetAt (vw (pA a) (upd N d (.dT [(kI (0, 0), .ref l0)]))) (.ref l0) [(0, 0), (0, (t : Int)), ((t : Int), (t : Int))] := LetAt.mono kvN ⟨l0, _, rfl, vw_put (pA_ok.mpr m5) g5, .cons ⟨u0, rfl, vw_put (pA_ok.mpr m2) g2⟩ (.cons ⟨u1, rfl, vw_put (pA_ok.mpr m3) g3⟩ (.cons ⟨u2, rfl, vw_put (pA_ok.mpr m4) g4⟩ .nil))⟩
  generalize upd N d (.dT [(kI (0, 0), .ref l0)]) = N1 at hd1 bN wN hA hl1 ⊢
  clear kpd kvN g0 g1 g2 g3 g4 g5 m2 m3 m4 m5 nN sX sN wM bM
  refine ⟨_, rfl, a, _, 2, rfl, .inr wN, by omega, by omega, by decide, by decide, fun r H2 r0 r1 b2 w2 => ⟨_, rfl, _, _, rfl, rfl, .inl ⟨Int.lt_of_lt_of_le (by decide) r0, Int.lt_trans r1 (by decide)⟩, _, rfl, (by show 2 ≤ sizeLine; decide), fun tt htt => ⟨(by show 1 ≤ sizeLine; decide), fun ll hll => ?_⟩⟩⟩
  have hx : r * (t : Int) = 0 ∨ r * (t : Int) = (t : Int) := by
    obtain rfl | rfl : r = 0 ∨ r = 1 := by omega
    · exact .inl (Int.zero_mul _)
    · exact .inr (Int.one_mul _)
  have y1 := same_new htt (.tup [V.int (r * (t : Int)), V.int (t : Int)])
  have y2 := same_new hll (.lst [V.ref tt])
  have y12 := y1.trans y2
  have m1 : tt ≠ a := (w2.ne htt).symm
  have m2 : ll ≠ a := ((w2.same y1).ne hll).symm
  have hdl := y12 _ _ (b2 _ _ nda hd1)
  have z1 : (upd (upd H2 tt (.tup [V.int (r * (t : Int)), V.int (t : Int)])) ll (.lst [V.ref tt])) tt = some (.tup [V.int (r * (t : Int)), V.int (t : Int)]) := y2 _ _ upd_same
  have z2 : (upd (upd H2 tt (.tup [V.int (r * (t : Int)), V.int (t : Int)])) ll (.lst [V.ref tt])) ll = some (.lst [V.ref tt]) := upd_same
  have b3 := b2.trans (But.same (a := a) y12)
  have w3 := w2.same y12
  generalize upd (upd H2 tt (.tup [V.int (r * (t : Int)), V.int (t : Int)])) ll (.lst [V.ref tt]) = H3 at hdl z1 z2 b3 w3 ⊢
  clear y1 y2 y12 htt hll b2 w2
  refine ⟨_, rfl, (by show 2 ≤ sizeLine; decide), fun k1 hk1 => ?_⟩
  have y1 := same_new hk1 (.tup [V.int 0, V.int 1])
  have ek : (upd H3 k1 (.tup [V.int 0, V.int 1])) k1 = some (.tup [V.int 0, V.int 1]) := upd_same
  have hdl := y1 _ _ hdl
  have z1 := y1 _ _ z1
  have z2 := y1 _ _ z2
  have b4 := b3.trans (But.same (a := a) y1)
  have w4 := w3.same y1
  generalize upd H3 k1 (.tup [V.int 0, V.int 1]) = H4 at ek hdl z1 z2 b4 w4 ⊢
  refine ⟨d, _, rfl, DPut.t (k := kI (0, 1)) hdl ek (Nat.lt_of_lt_of_le (show 1 < 100 by decide) (by decide)), ?_⟩
  rw [putK_new (kvs := [(kI (0, 0), .ref l0)]) _ (valV_noneP fun e he c => by
    rw [List.mem_singleton.mp he] at c
    have c := kI_inj c
    cases c)]
  have kv : Kp (vw (pA a) H4) (vw (pA a) (upd H4 d (.dT ([(kI (0, 0), .ref l0)] ++ [(kI (0, 1), .ref ll)])))) := vwA_put hdl
  have k4 := (vwA_but b4).trans kv
  have l2 : LetAt (vw (pA a) (upd H4 d (.dT ([(kI (0, 0), .ref l0)] ++ [(kI (0, 1), .ref ll)])))) (.ref ll) [(r * (t : Int), (t : Int))] := LetAt.mono kv ⟨ll, _, rfl, vw_put (pA_ok.mpr m2) z2, .cons ⟨tt, rfl, vw_put (pA_ok.mpr m1) z1⟩ .nil⟩
  have hA := (hA (r * (t : Int))).mono k4
  have hl1 := hl1.mono k4
  have hd5 : (upd H4 d (.dT ([(kI (0, 0), .ref l0)] ++ [(kI (0, 1), .ref ll)]))) d = some (.dT [(kI (0, 0), .ref l0), (kI (0, 1), .ref ll)]) := upd_same
  have b5 : But a H (upd H4 d (.dT ([(kI (0, 0), .ref l0)] ++ [(kI (0, 1), .ref ll)]))) := (bN.trans b4).new hdH
  have w5 := w4.but (fun c => nda c.symm) (But.at (a := d) (H := H4) (o := .dT ([(kI (0, 0), .ref l0)] ++ [(kI (0, 1), .ref ll)])))
  generalize upd H4 d (.dT ([(kI (0, 0), .ref l0)] ++ [(kI (0, 1), .ref ll)])) = H5 at l2 hA hl1 hd5 b5 w5 ⊢
  refine ⟨_, rfl, _, rfl, (by show 2 ≤ sizeLine; decide), fun tp htp => ?_⟩
  have y2 := same_new htp (.tup [V.ref A', V.ref d])
  have k6 := vwA_but (But.same (a := a) y2)
  exact q tp A' d t _ _ (b5.trans (But.same y2)) ((w5.same y2).up (by omega)) upd_same t1 t3 hx (hA.mono k6) ⟨_, y2 _ _ hd5, .cons ⟨rfl, hl1.mono k6⟩ (.cons ⟨rfl, l2.mono k6⟩ .nil)⟩
end
end TA

set_option Elab.async false
set_option maxRecDepth 100000
set_option maxHeartbeats 4000000
namespace TA
open PySem L2 PyProof.Rows
set_option linter.unusedVariables false
structure KwD (P : Program) (w : World) (K : PySem.W.Frag) (mg : Str → Option Value) (base : Heap) (x : Str) (ps ks : List Str) (k : Nat) (sp : Sp) (g : List Value → List Value → List Value) (gV : List V → List V → List V) (f : Addr) (fd : FuncData) : Prop where
  G : FnOk P w K mg base CX0 k f fd ps sp
  b : KBn K fd ps 0 ks g gV
  k : PySem.W.keepIn K (.ref f) = true
  m : mg x = some (.ref f)
def rev2 {α : Type} : List α → List α
  | [a, b] => [b, a]
  | l => l
theorem vals_rev2 {zs : List V} {ws : List Value} (r : Vals zs ws) : Vals (rev2 zs) (rev2 ws) := by
  cases r with
  | nil => exact .nil
  | cons a r =>
    cases r with
    | nil => exact .cons a .nil
    | cons b r =>
      cases r with
      | nil => exact .cons b (.cons a .nil)
      | cons c r => exact .cons a (.cons b (.cons c r))
def rev4 {α : Type} : List α → List α
  | [a, b, c, d] => [d, c, b, a]
  | l => l
theorem vals_rev4 {zs : List V} {ws : List Value} (r : Vals zs ws) : Vals (rev4 zs) (rev4 ws) := by
  cases r with
  | nil => exact .nil
  | cons a r =>
    cases r with
    | nil => exact .cons a .nil
    | cons b r =>
      cases r with
      | nil => exact .cons a (.cons b .nil)
      | cons c r =>
        cases r with
        | nil => exact .cons a (.cons b (.cons c .nil))
        | cons d r =>
          cases r with
          | nil => exact .cons d (.cons c (.cons b (.cons a .nil)))
          | cons e r => exact .cons a (.cons b (.cons c (.cons d (.cons e r))))
section
variable {K : PySem.W.Frag} {f : Addr} {fd : FuncData}
theorem kb_swapped (F : Fun K "swapped" "swapped" s_swapped f fd) : KBn K fd ["task"] 0 ["task"] (fun _ ws => ws) (fun _ zs => zs) := by
  obtain ⟨oc, od, kV, doc, pm, an, cdv, ct, osl, rfl, lk, hcd⟩ := F.ex
  refine ⟨fun s us ws _ h1 h2 => ?_, fun _ q => q⟩
  match us, ws, h1, h2 with
  | [], [_], _, _ => exact .of_eq rfl
theorem kb_near (F : Fun K "near" "near" s_near f fd) : KBn K fd ["n"] 0 ["n"] (fun _ ws => ws) (fun _ zs => zs) := by
  obtain ⟨oc, od, kV, doc, pm, an, cdv, ct, osl, rfl, lk, hcd⟩ := F.ex
  refine ⟨fun s us ws _ h1 h2 => ?_, fun _ q => q⟩
  match us, ws, h1, h2 with
  | [], [_], _, _ => exact .of_eq rfl
theorem kb_apart (F : Fun K "apart" "apart" s_apart f fd) : KBn K fd ["n"] 0 ["n"] (fun _ ws => ws) (fun _ zs => zs) := by
  obtain ⟨oc, od, kV, doc, pm, an, cdv, ct, osl, rfl, lk, hcd⟩ := F.ex
  refine ⟨fun s us ws _ h1 h2 => ?_, fun _ q => q⟩
  match us, ws, h1, h2 with
  | [], [_], _, _ => exact .of_eq rfl
theorem kb_boxed (F : Fun K "boxed" "boxed" s_boxed f fd) : KBn K fd ["task"] 0 ["task"] (fun _ ws => ws) (fun _ zs => zs) := by
  obtain ⟨oc, od, kV, doc, pm, an, cdv, ct, osl, rfl, lk, hcd⟩ := F.ex
  refine ⟨fun s us ws _ h1 h2 => ?_, fun _ q => q⟩
  match us, ws, h1, h2 with
  | [], [_], _, _ => exact .of_eq rfl
theorem kb_joint (F : Fun K "joint" "joint" s_joint f fd) : KBn K fd ["task", "other"] 0 ["other", "task"] (fun _ ws => rev2 ws) (fun _ zs => rev2 zs) := by
  obtain ⟨oc, od, kV, doc, pm, an, cdv, ct, osl, rfl, lk, hcd⟩ := F.ex
  refine ⟨fun s us ws _ h1 h2 => ?_, fun _ q => vals_rev2 q⟩
  match us, ws, h1, h2 with
  | [], [_, _], _, _ => exact .of_eq rfl
theorem kb_boxed_fault (F : Fun K "boxed_fault" "boxed_fault" s_boxed_fault f fd) : KBn K fd ["task", "thing"] 0 ["thing", "task"] (fun _ ws => rev2 ws) (fun _ zs => rev2 zs) := by
  obtain ⟨oc, od, kV, doc, pm, an, cdv, ct, osl, rfl, lk, hcd⟩ := F.ex
  refine ⟨fun s us ws _ h1 h2 => ?_, fun _ q => vals_rev2 q⟩
  match us, ws, h1, h2 with
  | [], [_, _], _, _ => exact .of_eq rfl
theorem kb_boxed_bar_fault (F : Fun K "boxed_bar_fault" "boxed_bar_fault" s_boxed_bar_fault f fd) : KBn K fd ["task", "thing"] 0 ["thing", "task"] (fun _ ws => rev2 ws) (fun _ zs => rev2 zs) := by
  obtain ⟨oc, od, kV, doc, pm, an, cdv, ct, osl, rfl, lk, hcd⟩ := F.ex
  refine ⟨fun s us ws _ h1 h2 => ?_, fun _ q => vals_rev2 q⟩
  match us, ws, h1, h2 with
  | [], [_, _], _, _ => exact .of_eq rfl
theorem kb_tell_boxed (F : Fun K "tell_boxed" "tell_boxed" s_tell_boxed f fd) : KBn K fd ["task", "boxed", "inputs", "weaving"] 0 ["weaving", "inputs", "boxed", "task"] (fun _ ws => rev4 ws) (fun _ zs => rev4 zs) := by
  obtain ⟨oc, od, kV, doc, pm, an, cdv, ct, osl, rfl, lk, hcd⟩ := F.ex
  refine ⟨fun s us ws _ h1 h2 => ?_, fun _ q => vals_rev4 q⟩
  match us, ws, h1, h2 with
  | [], [_, _, _, _], _, _ => exact .of_eq rfl
theorem kb_init (F : Fun K "__init__" "Task.__init__" s_init f fd) : KBn K fd ["self", "alone", "both"] 1 ["both", "alone"] (fun us ws => us ++ rev2 ws) (fun vs zs => vs ++ rev2 zs) := by
  obtain ⟨oc, od, kV, doc, pm, an, cdv, ct, osl, rfl, lk, hcd⟩ := F.ex
  refine ⟨fun s us ws _ h1 h2 => ?_, fun p q => p.append (vals_rev2 q)⟩
  match us, ws, h1, h2 with
  | [_], [_, _], _, _ => exact .of_eq rfl
theorem kb_inputs (F : Fun K "inputs" "Task.inputs" s_inputs f fd) : KBn K fd ["self", "hand"] 1 ["hand"] (fun us ws => us ++ ws) (fun vs zs => vs ++ zs) := by
  obtain ⟨oc, od, kV, doc, pm, an, cdv, ct, osl, rfl, lk, hcd⟩ := F.ex
  refine ⟨fun s us ws _ h1 h2 => ?_, fun p q => p.append q⟩
  match us, ws, h1, h2 with
  | [_], [_], _, _ => exact .of_eq rfl
end
def spNo : Sp := fun _ _ _ _ => False
section
variable {P : Program} {w : World} {K : PySem.W.Frag} {mg : Str → Option Value} {base : Heap}
theorem ok_no {k : Nat} {f : Addr} {fd : FuncData} {ps : List Str} : FnOk P w K mg base CX0 k f fd ps spNo := ⟨fun _ _ _ _ h => h.elim, fun _ _ _ _ _ _ _ _ _ _ _ _ _ h => h.elim⟩
theorem lower {k : Nat} {f : Addr} {fd : FuncData} {ps : List Str} {sp sp' : Sp} (F : FnOk P w K mg base (L2.CX P w) k f fd ps sp) (h : ∀ vs H Q E, sp' vs H Q E → sp vs H Q fun _ _ _ => False) : FnOk P w K mg base CX0 k f fd ps sp' :=
  ⟨fun vs H Q E q => F.len _ _ _ _ (h vs H Q E q), fun A outer s H args us vs Q E hr he hb hv hs => codeAny_mono (F.run A outer s H args us vs Q _ hr he hb hv (h _ _ _ _ hs)) fun r s' h => by
    cases r with
    | error e =>
      obtain ⟨_, _, _, _, _, _, _, _, _, _, _, _, z⟩ := h
      exact z.elim
    | ok o => cases o <;> exact h⟩
end
end TA
namespace TB
open TA PySem L2 PyProof.Rows
/-- tell_boxed of a good weaving -/
def spTellOk (C : Addr) : Sp := fun vs H Q _ => ∃ (p t : Addr) (T : TD) (ch : Nat → List Int) (an : Nat → IP × List (Int × Int) → Int) (al ans d0 d1 tt lw : Addr) (ws : List Int) (e : IP × List (Int × Int)), vs = [.ref p, .ref t, .ref tt, .ref lw] ∧ WFS T ∧ BxF C H p t T ch an al ans d0 d1 ∧ e ∈ T.bo ∧ TpAt H (.ref tt) (iI e.1) ∧
  H lw = some (.lst (ws.map V.int)) ∧ HW ws ∧ ws.length ≤ 20 ∧ wbB ws = true ∧ ∀ (r : Addr) (H' : Hp), Same H H' → H' r = some (.tup [oI (tellO ch an ws e 0), oI (tellO ch an ws e 1)]) → Q (.ref r) H'
theorem tell_ok {C cW : Addr} (vs : List V) (H : Hp) (Q : VK) (E : XK) (h : spTellOk C vs H Q E) : spTell C cW vs H Q fun _ _ _ => False := by
  obtain ⟨p, t, T, ch, an, al, ans, d0, d1, tt, lw, ws, e, rfl, h1, h2, h3, h4, h5, h6, h7, h8, q⟩ := h
  exact ⟨p, t, T, ch, an, al, ans, d0, d1, tt, lw, ws, e, rfl, h1, h2, h3, h4, h5, h6, h7, fun c => (by rw [h8] at c; cases c), fun _ => q⟩
/-- what was told, taken as a boxed protocol -/
theorem BxT.f {C : Addr} {H0 H : Hp} {p : Addr} {T : TD} {ch : Nat → List Int} {t al an r0 r1 d0 d1 : Addr} (b : BxT H T ch t al an r0 r1 d0 d1) (W : WFS T) (x0 : TaskX C H p T d0) (x1 : TaskX C H p T d1) (hl : ∀ h, h < 2 → (ch h).length = (T.al h).length) (hg : ∀ h a, h < 2 → a < (T.al h).length → goodS T h a ((ch h).getD a 0)) : BxF C H p t T ch (ansO ch) al an d0 d1 :=
  ⟨b.h_t, b.rows, b.h_an, b.h_d0, b.h_d1, x0, x1, hl, fun h hh z hz => by
    obtain ⟨j, hj⟩ := List.getElem?_of_mem hz
    have hj1 := (List.getElem?_eq_some_iff.mp hj).1
    have l := hl h hh
    have g := (hg h j hh (by omega)).1
    have hk : j < (T.al h).length := by omega
    have e1 : (ch h).getD j 0 = z := by rw [List.getD_eq_getElem?_getD, hj]; rfl
    have e2 : (T.al h).getD j [] = (T.al h)[j] := by rw [List.getD_eq_getElem?_getD, List.getElem?_eq_getElem hk]; rfl
    rw [e1, e2] at g
    exact (W.row h hh _ (List.getElem_mem hk)).2.2.2 z g, fun h hh e he => (ans_in W hl hg hh he).2⟩
end TB

set_option Elab.async false
set_option maxRecDepth 100000
set_option maxHeartbeats 4000000
namespace TA
open PySem L2 PyProof.Rows TB
set_option linter.unusedVariables false
theorem let_inj {H : Hp} {v : V} {l m : List (Int × Int)} (h : LetAt H v l) (g : LetAt H v m) : l = m := by
  obtain ⟨t, xs, rfl, e, a⟩ := h
  obtain ⟨t', ys, e2, e', a'⟩ := g
  cases e2
  rw [e] at e'
  cases e'
  rw [dec_all a, dec_all a']
theorem en_inj {H : Hp} : ∀ {ks : List (List Key × V)} {bo bo' : BD}, A2 (EnAt H) ks bo → A2 (EnAt H) ks bo' → bo = bo'
  | _, _, _, .nil, .nil => rfl
  | _, _, _, .cons a r, .cons b s => by
    rw [en_inj r s]
    congr 1
    exact Prod.ext (kI_inj (a.1.symm.trans b.1)) (let_inj a.2 b.2)
theorem sameB_self (b : BD) : sameB b b = true := by
  unfold sameB
  simp
theorem ltP_uniq : ∀ {l m : List (Int × Int)}, l.Perm m → l.Pairwise ltP → m.Pairwise ltP → l = m
  | [], m, h, _, _ => (List.Perm.eq_nil h.symm).symm
  | x :: l, [], h, _, _ => absurd h.length_eq (by simp)
  | x :: l, y :: m, h, hl, hm => by
    have e : x = y := by
      rcases List.mem_cons.mp (h.mem_iff.mp (List.mem_cons_self (a := x) (l := l))) with e | hx
      · exact e
      rcases List.mem_cons.mp (h.mem_iff.mpr (List.mem_cons_self (a := y) (l := m))) with e | hy
      · exact e.symm
      have h1 := (List.pairwise_cons.mp hl).1 y hy
      have h2 := (List.pairwise_cons.mp hm).1 x hx
      unfold ltP at h1 h2
      omega
    subst e
    rw [ltP_uniq (List.Perm.cons_inv h) (List.pairwise_cons.mp hl).2 (List.pairwise_cons.mp hm).2]
theorem swE_uniq : ∀ {bo b1 b2 : BD}, A2 SwE bo b1 → A2 SwE bo b2 → b1 = b2
  | _, _, _, .nil, .nil => rfl
  | _, _, _, .cons a r, .cons b s => by
    rw [swE_uniq r s]
    congr 1
    exact Prod.ext (a.1.trans b.1.symm) (ltP_uniq (a.2.1.trans b.2.1.symm) a.2.2 b.2.2)
theorem jnE_uniq {w0 w1 : Nat} : ∀ {zs : List (EB × EB)} {b1 b2 : BD}, A2 (JnE w0 w1) zs b1 → A2 (JnE w0 w1) zs b2 → b1 = b2
  | _, _, _, .nil, .nil => rfl
  | _, _, _, .cons a r, .cons b s => by
    rw [jnE_uniq r s]
    congr 1
    exact Prod.ext (a.key.trans b.key.symm) (ltP_uniq (a.pm.trans b.pm.symm) a.pw b.pw)
theorem sameTD_of {U U' : TD} (h : ∀ h, h < 2 → U.al h = U'.al h) (b : U.bo = U'.bo) : sameTD U U' = true := by
  unfold sameTD
  rw [b, sameB_self, Bool.and_true]
  exact decide_eq_true ⟨h 0 (by decide), h 1 (by decide)⟩
theorem SwT.same {T U U' : TD} (h : SwT T U) (h' : SwT T U') : sameTD U U' = true := sameTD_of (fun k hk => by rw [h.al k hk, h'.al k hk]) (swE_uniq h.bo h'.bo)
theorem JnT.same {T S U U' : TD} (h : JnT T S U) (h' : JnT T S U') : sameTD U U' = true := sameTD_of (fun k hk => by rw [h.al k hk, h'.al k hk]) (jnE_uniq h.bo h'.bo)
def Kf (G H H' : Hp) : Prop := ∀ b o, H b = some o → (G b = none ∨ ((∀ xs, o ≠ .lst xs) ∧ ∀ kvs, o ≠ .dT kvs)) → H' b = some o
theorem NewAt.kf {C : Addr} {G H H' : Hp} {p : Addr} {T : TD} (h : NewAt C G H p T) (k : Kf G H H') : NewAt C G H' p T := by
  obtain ⟨dx, a, d, kvs, h1, h2, h3, hn, h4, h5⟩ := h
  have kp : Kp (nwx G p H) (nwx G p H') := fun b o _ e => by
    obtain ⟨e1, e2, e3⟩ := nwx_some e
    exact nwx_put e1 e2 (k b o e3 (.inl e1))
  refine ⟨dx, a, d, kvs, k _ _ h1 (.inr ⟨fun xs c => (nomatch c), fun xs c => (nomatch c)⟩), h2.mono kp, h3, hn, k _ _ h4 (.inl h3), h5.imp fun _ _ r => ?_⟩
  obtain ⟨r1, t, xs, e, e1, e2⟩ := r
  refine ⟨r1, t, xs, e, kp.lst e1, e2.imp fun _ _ q => ?_⟩
  obtain ⟨u, eu, hu⟩ := q
  exact ⟨u, eu, k _ _ hu (.inr ⟨fun xs c => (nomatch c), fun xs c => (nomatch c)⟩)⟩
def IsScr (ns : List Int) (o : HO) : Prop := o = .lst (ns.map V.int) ∨ ∃ q, o = .frz q (.lst (ns.map V.int))
def KpS (ns : List Int) (sc : Addr) (H H' : Hp) : Prop := ∀ o, IsScr ns o → H sc = some o → H' sc = some o
theorem KpS.sql {K : PySem.W.Frag} {ns : List Int} {sc : Addr} {H H' : Hp} (k : KpS ns sc H H') (h : SqL K H sc (ns.map V.int)) : SqL K H' sc (ns.map V.int) := by
  rcases h with (h | ⟨q, h⟩) | h
  · exact .inl (.inl (k _ (.inl rfl) h))
  · exact .inl (.inr ⟨q, k _ (.inr ⟨q, rfl⟩) h⟩)
  · exact .inr h
theorem KpS.refl {ns : List Int} {sc : Addr} {H : Hp} : KpS ns sc H H := fun _ _ h => h
theorem KpS.same {ns : List Int} {sc : Addr} {H H' H'' : Hp} (k : KpS ns sc H H') (s : Same H' H'') : KpS ns sc H H'' := fun o i h => s _ _ (k o i h)
theorem KpS.new {ns : List Int} {sc p : Addr} {H H' H'' : Hp} (k : KpS ns sc H H') (b : But p H' H'') (n : H p = none) : KpS ns sc H H'' := fun o i h => b _ _ (fun c => by rw [← c, h] at n; cases n) (k o i h)
theorem diffB {C : Addr} {H0 H1 H : Hp} {p q : Addr} {T S : TD} (h : TaskAt C H0 p T) (n : NewT C H0 H1 q S) (s : Same H1 H) : DiffB C H p q := fun dx a d dx' a' d' e e' => by
  obtain ⟨dy, b, c, h1, _, kvs, h2, _⟩ := h
  obtain ⟨s1, Hx, sx, dz, b', c', kvs', n1, _, n2, _⟩ := n
  rw [s _ _ (s1 _ _ h1)] at e
  rw [s _ _ n1] at e'
  injection e with e
  injection e with _ _ e
  injection e' with e'
  injection e' with _ _ e'
  have e1 : c = d := by
    rw [flds_eq, flds_eq] at e
    simp at e
    exact e.2
  have e2 : c' = d' := by
    rw [flds_eq, flds_eq] at e'
    simp at e'
    exact e'.2
  subst e1 e2
  rintro rfl
  rw [sx _ _ h2] at n2
  cases n2
theorem NewT.up {C : Addr} {G H0 H1 : Hp} {q : Addr} {S : TD} (n : NewT C H0 H1 q S) (s : Same G H0) : NewT C G H1 q S := by
  obtain ⟨s1, Hx, sx, n⟩ := n
  exact ⟨s.trans s1, Hx, s.trans sx, n⟩
/-- what a make leaves -/
theorem make_same {C : Addr} {M : Hp} {x dx : Addr} (nx : M x = none) (ndx : M dx = none) : Same M (upd (upd M dx (.own x)) x (.ins C dx [])) := fun b o e => by
  rw [upd_ne (ne_of_none e nx), upd_ne (ne_of_none e ndx)]
  exact e
theorem make_new {C : Addr} {M H5 : Hp} {x dx : Addr} {T : TD} (nx : M x = none) (ndx : M dx = none) (b5 : But x (upd (upd M dx (.own x)) x (.ins C dx [])) H5) (n : NewAt C (upd (upd M dx (.own x)) x (.ins C dx [])) H5 x T) : NewT C M H5 x T :=
  ⟨fun b o e => b5 _ _ (ne_of_none e nx) (make_same nx ndx _ _ e), _, make_same nx ndx, n⟩
/-- a task that is new behind the well stays while the well changes -/
theorem NewT.well {C st : Addr} {G H H' : Hp} {p : Addr} {T : TD} {zs : List V} (h : NewT C G H p T) (g : G st ≠ none) (w : H st = some (.lst zs)) (b : But st H H') : TaskAt C H' p T := by
  obtain ⟨_, Gx, sg, n⟩ := h
  refine (n.kf (H' := H') fun x o e c => b x o (fun z => ?_) e).task
  rw [z, w] at e
  injection e with e
  rcases c with c | c
  · rw [z] at c
    exact g (none_of_same sg c)
  · exact c.1 _ e.symm
def oD : Option Int → PyData
  | none => .none
  | some i => .int i
theorem dp_o {K : PySem.W.Frag} {H : Hp} (x : Option Int) : Dp K H (oI x) (oD x) := by
  cases x with
  | none => exact .non
  | some i => exact .int i
theorem okD_o (x : Option Int) : Ok 1 (oD x) := by
  cases x with
  | none => exact ⟨by simp [oD, PyData.canLay0], by simp [oD, PyData.depth]⟩
  | some i => exact ok_int i
theorem okD_o2 (a b : Option Int) : Ok 2 (.tuple [oD a, oD b]) := ok_tuple fun d hd => by
  rcases List.mem_cons.mp hd with rfl | hd
  · exact okD_o a
  · obtain rfl := List.mem_singleton.mp hd
    exact okD_o b
theorem cut_row {r : Int} (h0 : 0 ≤ r) (h1 : r < 6) : ∃ ws : List Int, cutV [V.int 0, V.int 0, V.int 1, V.int 1, V.int 1] none (some r) = ws.map V.int ∧ HW ws ∧ ws.length ≤ 20 ∧ wbB ws = true := by
  have hw : ∀ {ws : List Int}, (∀ x ∈ ws, x = 0 ∨ x = 1) → HW ws := fun h => h
  obtain rfl | rfl | rfl | rfl | rfl | rfl : r = 0 ∨ r = 1 ∨ r = 2 ∨ r = 3 ∨ r = 4 ∨ r = 5 := by omega
  · exact ⟨[], rfl, hw (by decide), by decide, by decide +kernel⟩
  · exact ⟨[0], rfl, hw (by decide), by decide, by decide +kernel⟩
  · exact ⟨[0, 0], rfl, hw (by decide), by decide, by decide +kernel⟩
  · exact ⟨[0, 0, 1], rfl, hw (by decide), by decide, by decide +kernel⟩
  · exact ⟨[0, 0, 1, 1], rfl, hw (by decide), by decide, by decide +kernel⟩
  · exact ⟨[0, 0, 1, 1, 1], rfl, hw (by decide), by decide, by decide +kernel⟩
theorem _root_.TB.TaskX.at {C : Addr} {H H' : Hp} {p : Addr} {T : TD} {d : Addr} (h : TaskX C H p T d) (t : TaskAt C H' p T) (k : ∀ o, (∀ zs, o ≠ .lst zs) → H p = some o → H' p = some o) : TaskX C H' p T d := by
  obtain ⟨dx, a, d', e1, _, _, ne⟩ := h
  obtain ⟨dy, b, c, g1, g2, g3⟩ := t
  refine ⟨dy, b, c, g1, g2, g3, ?_⟩
  have e := k (.ins C dx (flds a d')) (fun zs c => (nomatch c)) e1
  rw [g1] at e
  injection e with e
  injection e with _ _ e
  have e2 : c = d' := by
    rw [flds_eq, flds_eq] at e
    simp at e
    exact e.2
  rw [e2]
  exact ne
/-- a told protocol stays while the well changes -/
theorem _root_.TB.BxT.well {st : Addr} {H H' : Hp} {T : TD} {ch : Nat → List Int} {t al an r0 r1 d0 d1 : Addr} {x y z : V} (b : BxT H T ch t al an r0 r1 d0 d1) (w : H st = some (.lst [x, y, z])) (hl : ∀ h, h < 2 → (ch h).length < 3) (k : But st H H') : BxT H' T ch t al an r0 r1 d0 d1 := by
  have go : ∀ {q : Addr} {o : HO}, H q = some o → o ≠ .lst [x, y, z] → H' q = some o := fun {q o} e ne => k _ _ (fun c => by
    rw [c, w] at e
    injection e with e
    exact ne e.symm) e
  have ln : ∀ {xs : List V}, xs.length < 3 → HO.lst xs ≠ .lst [x, y, z] := fun hx c => by
    injection c with c
    rw [c] at hx
    exact Nat.lt_irrefl 3 hx
  refine ⟨go b.h_t (fun c => (nomatch c)), go b.h_al (ln (by show 2 < 3; decide)), go b.h_r0 (ln (by rw [List.length_map]; exact hl 0 (by decide))), go b.h_r1 (ln (by rw [List.length_map]; exact hl 1 (by decide))), go b.h_an (ln (by show 2 < 3; decide)), go b.h_d0 (fun c => (nomatch c)), go b.h_d1 (fun c => (nomatch c))⟩
theorem NewT.on {C : Addr} {G H H' : Hp} {p : Addr} {T : TD} (n : NewT C G H p T) (s : Same H H') : NewT C G H' p T := by
  obtain ⟨s1, Hx, sx, n⟩ := n
  exact ⟨s1.trans s, Hx, sx, n.kf fun b o e _ => s _ _ e⟩
def spLaw (K : PySem.W.Frag) : Sp := fun vs H Q _ => ∃ (a : Addr) (ns : List Int), vs = [.ref a] ∧ SqL K H a (ns.map V.int) ∧ ns.length ≤ 63 ∧ ∀ H', Q (.bl true) H'
section
variable {P : Program} {w : World} {K : PySem.W.Frag} {mg : Str → Option Value} {base : Heap}
abbrev nLaw : List Str := ["_law_script", "_law_k", "_law_state", "_law_rows", "_law_house_here", "_law_some", "_law_more", "_law_size", "_law_word", "_law_told", "_law_row"]
theorem sc_law : FnScope nLaw ["_law_script"] (defScope sLaw) := ⟨rfl, rfl, rfl, by decide +kernel, rfl, by decide +kernel, by decide +kernel⟩
theorem ok_law {f g1 g2 g3 g4 g5 g6 g7 g8 g9 g10 g11 g12 g13 g14 C : Addr} {fd d1 d2 d3 d4 d5 d6 d7 d8 d9 d10 d11 d12 d13 d14 : FuncData} (F : Fun K "law" "law" sLaw f fd) (T : Txt K mg) (T2 : Txt2 K mg) (Z : TxtC K mg C) (EC : EqC K C) (Ca : Def P w K mg base "_law_cell_at" ["_law_script", "_law_k"] 1 (spCell K) g1 d1)
    (Ho : Def P w K mg base "_law_house" ["_law_state"] 2 spHouse g2 d2) (Tk : KDef P w K mg base C "Task" ["self", "alone", "both"] 7 (spInit K C) g3 d3) (TkK : KBn K d3 ["self", "alone", "both"] 1 ["both", "alone"] (fun us ws => us ++ rev2 ws) (fun vs zs => vs ++ rev2 zs)) (EQ : EqD P w K mg base C 1 (spEq K C) g4 d4)
    (Inp : MDef P w K mg base C "inputs" nInputs 4 (spInputs K C) g5 d5) (InpK : KBn K d5 nInputs 1 ["hand"] (fun us ws => us ++ ws) (fun vs zs => vs ++ zs)) (Dg : Def P w K mg base "_law_digit" ["_law_state", "_law_base"] 1 spDigit g6 d6)
    (Sw : Def P w K mg base "swapped" ["task"] 9 (spSwap K C) g7 d7) (SwK : KwD P w K mg base "swapped" ["task"] ["task"] 9 (spSwap K C) (fun _ ws => ws) (fun _ zs => zs) g7 d7)
    (Jn : Def P w K mg base "joint" ["task", "other"] 9 (spJoint C) g8 d8) (JnK : KwD P w K mg base "joint" ["task", "other"] ["other", "task"] 9 (spJoint C) (fun _ ws => rev2 ws) (fun _ zs => rev2 zs) g8 d8)
    (Ne : Def P w K mg base "near" ["n"] 9 (spNear C) g9 d9) (NeK : KwD P w K mg base "near" ["n"] ["n"] 9 (spNear C) (fun _ ws => ws) (fun _ zs => zs) g9 d9)
    (Ap : Def P w K mg base "apart" ["n"] 9 (spApart C) g10 d10) (ApK : KwD P w K mg base "apart" ["n"] ["n"] 9 (spApart C) (fun _ ws => ws) (fun _ zs => zs) g10 d10)
    (Bx : Def P w K mg base "boxed" ["task"] 5 (TB.spBoxed K C) g11 d11) (BxK : KwD P w K mg base "boxed" ["task"] ["task"] 5 (TB.spBoxed K C) (fun _ ws => ws) (fun _ zs => zs) g11 d11)
    (Bb : Def P w K mg base "boxed_bar_fault" ["task", "thing"] 5 spNo g12 d12) (BbK : KwD P w K mg base "boxed_bar_fault" ["task", "thing"] ["thing", "task"] 5 spNo (fun _ ws => rev2 ws) (fun _ zs => rev2 zs) g12 d12)
    (Bf : Def P w K mg base "boxed_fault" ["task", "thing"] 7 (TB.spBoxF K C) g13 d13) (BfK : KwD P w K mg base "boxed_fault" ["task", "thing"] ["thing", "task"] 7 (TB.spBoxF K C) (fun _ ws => rev2 ws) (fun _ zs => rev2 zs) g13 d13)
    (Tl : Def P w K mg base "tell_boxed" ["task", "boxed", "inputs", "weaving"] 7 (TB.spTellOk C) g14 d14) (TlK : KwD P w K mg base "tell_boxed" ["task", "boxed", "inputs", "weaving"] ["weaving", "inputs", "boxed", "task"] 7 (TB.spTellOk C) (fun _ ws => rev4 ws) (fun _ zs => rev4 zs) g14 d14) : FnOk P w K mg base CX0 11 f fd ["_law_script"] (spLaw K) := by
  refine F.ok sc_law (fun vs H Q E h => ?_) (fun cdv A0 outer s H vs Q E hr h => ?_)
  · obtain ⟨a, ns, rfl, _⟩ := h
    rfl
  obtain ⟨sc, ns, rfl, hS, h63, q⟩ := h
  have nd := sc_law.nd
  have hu := hu_of hr
  have hu140 := hu140_of hr
  refine ⟨_, (pss_cons (ps_for PassesOwn.never (by rfl) (pi_range1 (by rfl) T.range (pa_cons (pe_callB (call_max2 rfl) (by rfl) T2.max (by decide +kernel) (pa_cons pe_int (pa_cons (pe_callB (call_min2 rfl) (by rfl) T.min (by decide +kernel) (pa_cons pe_int (pa_cons (pe_callB call_len_seq (by rfl) T.len PySem.boot_len (pa_cons (pv 0) pa_nil)) pa_nil))) pa_nil))) pa_nil)) (pg_name (i := 1) nd rfl (Or.inl rfl))
      (pss_cons (ps_set (i := 2) nd rfl (Or.inl rfl) (pe_lst (pa_cons (pe_op op_add (pe_call Ca.G (hr.mono (by decide)) rfl Ca.m Ca.k Ca.b .nil pass0 (pa_cons (pv 0) (pa_cons (pv 1) pa_nil))) (pe_op op_mul pe_int (pv 1))) pa_nil)))
    (pss_cons (ps_asg (pe_call Ho.G (hr.mono (by decide)) rfl Ho.m Ho.k Ho.b .nil pass0 (pa_cons (pv 2) pa_nil)) (pg_tup (by rfl) (pgs_cons (pg_name (i := 3) nd rfl (Or.inl rfl)) (pgs_cons (pg_name (i := 4) nd rfl (Or.inl rfl)) pgs_nil))))
    (pss_cons (ps_set (i := 5) nd rfl (Or.inl rfl) (pe_make Tk.M Tk.G (hr.mono (by decide)) (by rfl) Tk.m Tk.b .nil pass0 (pa_cons (pv 3) (pa_cons (pv 4) pa_nil))))
    (pss_cons (ps_set (i := 6) nd rfl (Or.inl rfl) (pe_makeK0 Tk.M Tk.G (hr.mono (by decide)) (by rfl) Tk.m TkK pass0 (pk_cons (pv 4) (pk_cons (pv 3) pk_nil))))
    (pss_cons (ps_if (PW.pt (pw_or (pt_cmpR (op_neO EQ.G EQ.at_ EC.ne EC.ob EQ.fn EQ.b (hr.mono (by decide)) pass0) (pv 5) (pv 6) (nomark _)) (pw_or (pt_cmpR op_ne (pe_methK0 (pv 6) Z.cl Inp.M Inp.G (hr.mono (by decide)) InpK pass0 (pk_cons pe_int pk_nil)) (pe_meth (pv 6) Z.cl Inp.M Inp.G (hr.mono (by decide)) Inp.b .nil pass0 (pa_cons pe_int pa_nil)) (nomark _)) (pw_or1 (pt_cmpR (op_neO EQ.G EQ.at_ EC.ne EC.ob EQ.fn EQ.b (hr.mono (by decide)) pass0) (pe_callN0 SwK.G (hr.mono (by decide)) rfl SwK.m SwK.k SwK.b pass0 (pk_cons (pv 5) pk_nil)) (pe_call Sw.G (hr.mono (by decide)) rfl Sw.m Sw.k Sw.b .nil pass0 (pa_cons (pv 5) pa_nil)) (nomark _))))))
      (pss_one (ps_ret pe_bl))
      pss_nil)
    (pss_cons (ps_if (pt_cmpR (op_neO EQ.G EQ.at_ EC.ne EC.ob EQ.fn EQ.b (hr.mono (by decide)) pass0) (pe_callN0 JnK.G (hr.mono (by decide)) rfl JnK.m JnK.k JnK.b pass0 (pk_cons (pv 6) (pk_cons (pv 5) pk_nil))) (pe_call Jn.G (hr.mono (by decide)) rfl Jn.m Jn.k Jn.b .nil pass0 (pa_cons (pv 5) (pa_cons (pv 6) pa_nil))) (nomark _))
      (pss_one (ps_ret pe_bl))
      pss_nil)
    (pss_cons (ps_set (i := 7) nd rfl (Or.inl rfl) (pe_op op_add pe_int (pe_call Dg.G (hr.mono (by decide)) rfl Dg.m Dg.k Dg.b .nil pass0 (pa_cons (pv 2) (pa_cons pe_int pa_nil)))))
    (pss_cons (ps_if (PW.pt (pw_or (pt_cmpR (op_neO EQ.G EQ.at_ EC.ne EC.ob EQ.fn EQ.b (hr.mono (by decide)) pass0) (pe_callN0 NeK.G (hr.mono (by decide)) rfl NeK.m NeK.k NeK.b pass0 (pk_cons (pv 7) pk_nil)) (pe_call Ne.G (hr.mono (by decide)) rfl Ne.m Ne.k Ne.b .nil pass0 (pa_cons (pv 7) pa_nil)) (nomark _)) (pw_or1 (pt_cmpR (op_neO EQ.G EQ.at_ EC.ne EC.ob EQ.fn EQ.b (hr.mono (by decide)) pass0) (pe_callN0 ApK.G (hr.mono (by decide)) rfl ApK.m ApK.k ApK.b pass0 (pk_cons (pv 7) pk_nil)) (pe_call Ap.G (hr.mono (by decide)) rfl Ap.m Ap.k Ap.b .nil pass0 (pa_cons (pv 7) pa_nil)) (nomark _)))))
      (pss_one (ps_ret pe_bl))
      pss_nil)
    (pss_cons (ps_asg (pe_callN0 BxK.G (hr.mono (by decide)) rfl BxK.m BxK.k BxK.b pass0 (pk_cons (pv 5) pk_nil)) (pg_tup (by rfl) (pgs_cons (pg_name (i := 8) nd rfl (Or.inl rfl)) (pgs_cons (pg_name (i := 9) nd rfl (Or.inl rfl)) pgs_nil))))
    (pss_cons (ps_if (pt_cmpR (op_neX hu140) (pe_tup (pa_cons (pv 8) (pa_cons (pv 9) pa_nil))) (pe_call Bx.G (hr.mono (by decide)) rfl Bx.m Bx.k Bx.b .nil pass0 (pa_cons (pv 5) pa_nil)) (nomark _))
      (pss_one (ps_ret pe_bl))
      pss_nil)
    (pss_cons (ps_if (PW.pt (pw_and (pt_cmpR op_eq (pv 8) pe_str (nomark _)) (pw_and1 (pt_cmpR (op_neD hr.units) (pe_callN0 BbK.G (hr.mono (by decide)) rfl BbK.m BbK.k BbK.b pass0 (pk_cons (pv 9) (pk_cons (pv 5) pk_nil))) (pe_call Bb.G (hr.mono (by decide)) rfl Bb.m Bb.k Bb.b .nil pass0 (pa_cons (pv 5) (pa_cons (pv 9) pa_nil))) (nomark _)))))
      (pss_one (ps_ret pe_bl))
      pss_nil)
    (pss_one (ps_if (pt_cmpR op_eq (pv 8) pe_str (nomark _))
      (pss_cons (ps_set (i := 10) nd rfl (Or.inl rfl) (pe_slice sl_list (pe_lst (pa_cons pe_int (pa_cons pe_int (pa_cons pe_int (pa_cons pe_int (pa_cons pe_int pa_nil)))))) po_none (po_some (pe_call Dg.G (hr.mono (by decide)) rfl Dg.m Dg.k Dg.b .nil pass0 (pa_cons (pv 2) (pa_cons pe_int pa_nil))))))
    (pss_cons (ps_if (pt_cmpR (op_neD hr.units) (pe_callN0 BfK.G (hr.mono (by decide)) rfl BfK.m BfK.k BfK.b pass0 (pk_cons (pv 9) (pk_cons (pv 5) pk_nil))) (pe_call Bf.G (hr.mono (by decide)) rfl Bf.m Bf.k Bf.b .nil pass0 (pa_cons (pv 5) (pa_cons (pv 9) pa_nil))) (nomark _))
      (pss_one (ps_ret pe_bl))
      pss_nil)
    (pss_one (ps_if (pt_cmpR (op_neD hr.units) (pe_callN0 TlK.G (hr.mono (by decide)) rfl TlK.m TlK.k TlK.b pass0 (pk_cons (pv 10) (pk_cons (pe_tup (pa_cons pe_int (pa_cons pe_int pa_nil))) (pk_cons (pv 9) (pk_cons (pv 5) pk_nil))))) (pe_call Tl.G (hr.mono (by decide)) rfl Tl.m Tl.k Tl.b .nil pass0 (pa_cons (pv 5) (pa_cons (pv 9) (pa_cons (pe_tup (pa_cons pe_int (pa_cons pe_int pa_nil))) (pa_cons (pv 10) pa_nil))))) (nomark _))
      (pss_one (ps_ret pe_bl))
      pss_nil))))
      pss_nil))))))))))))))
    (pss_one (ps_ret pe_bl))), ?_⟩
  refine ⟨_, rfl, sc, _, rfl, .inl hS, _, _, rfl, _, _, rfl, _, rfl, ?_, ?_, ?_⟩
  · refine Int.le_trans (show (-(2 ^ 62) : Int) ≤ 1 by decide) ?_
    split <;> omega
  · refine Int.lt_of_le_of_lt (b := 16) ?_ (by decide)
    split <;> split <;> omega
  refine for_range (n := _) (fun i σ H' => i ≤ 16 ∧ ∃ g1 g2 g3 g4 g5 g6 g7 g8 g9 g10, σ = [some (.ref sc), g1, g2, g3, g4, g5, g6, g7, g8, g9, g10] ∧ SqL K H' sc (ns.map V.int)) ⟨Nat.zero_le _, _, _, _, _, _, _, _, _, _, _, rfl, hS⟩ ?_ ?_
  rotate_left
  · rintro σ H' ⟨_, _, _, _, _, _, _, _, _, _, _, rfl, _⟩
    exact q _
  rintro i σ H hi ⟨_, k1, k2, k3, k4, k5, k6, k7, k8, k9, k10, rfl, hS⟩
  have hi16 : i + 1 ≤ 16 := by
    refine Nat.lt_of_lt_of_le hi ?_
    refine Int.toNat_le.mpr ?_
    split <;> split <;> omega
  clear hi
  have ej : (0 : Int) + (i : Int) = (i : Int) := by omega
  rw [ej]
  refine ⟨_, rfl, _, rfl, sc, ns, (i : Int), rfl, hS, by omega, by omega, fun c => ?_⟩
  refine ⟨_, rfl, _, _, rfl, rfl, .inl ⟨by decide, by decide⟩, _, _, rfl, rfl, (by show 1 ≤ sizeLine; decide), fun st hst => ?_⟩
  have t1_ := same_new hst (.lst [V.int (c + 41 * (i : Int))])
  have es1 : (upd H st (.lst [V.int (c + 41 * (i : Int))])) st = some (.lst [V.int (c + 41 * (i : Int))]) := upd_same
  have ks : KpS ns sc H H := KpS.refl
  have ks := ks.same t1_
  generalize upd H st (.lst [V.int (c + 41 * (i : Int))]) = H1 at t1_ es1 ks ⊢
  refine ⟨_, rfl, st, 0, rfl, .inl ⟨_, es1⟩, by decide, by decide, fun u A d t x H2 b2 w2 er t1 t3 hx hA ⟨kvs, hd, hB⟩ => ?_⟩
  have ks := ks.new b2 hst
  refine ⟨u, _, rfl, SqT.of er, rfl, _, _, rfl, _, _, rfl, rfl, ?_⟩
  clear es1 t1_ er b2
  have hW := house_wf t1 t3 hx
  have hL := house_low t1 t3 hx
  have hV := house_srt t1 t3 hx
  have dS : ∀ {H' : Hp}, Same H2 H' → AlAt H' (.ref A) (houseT t x).al ∧ BoAt H' d (houseT t x).bo := fun s => ⟨(hA.mono vw_kp).mono (.same s), ⟨kvs, s _ _ hd, hB.imp fun _ _ r => (r.mono vw_kp).mono (.same s)⟩⟩
  refine ⟨_, rfl, _, rfl, ?_⟩
  intro x1 dx1 nx1 ndx1 nex1
  obtain ⟨a1, a2⟩ := dS (make_same (C := C) nx1 ndx1)
  refine ⟨x1, dx1, A, d, houseT t x, rfl, upd_same, a1, a2, hW, fun H3 b3 hnew => ⟨rfl, ?_⟩⟩
  have n1 : NewT C H2 H3 x1 (houseT t x) := make_new nx1 ndx1 b3 hnew
  clear hnew b3 nx1 ndx1 nex1 a1 a2
  refine ⟨_, rfl, _, rfl, rfl, rfl, ?_⟩
  intro x2 dx2 nx2 ndx2 nex2
  obtain ⟨a1, a2⟩ := dS (n1.1.trans (make_same (C := C) nx2 ndx2))
  refine ⟨x2, dx2, A, d, houseT t x, rfl, upd_same, a1, a2, hW, fun H4 b4 hnew => ⟨rfl, ?_⟩⟩
  have n2 : NewT C H3 H4 x2 (houseT t x) := make_new nx2 ndx2 b4 hnew
  clear hnew b4 nx2 ndx2 nex2 a1 a2
  have s24 := n1.1.trans n2.1
  have tOne := TaskAt.mono n2.1 n1.task
  have tTwo := n2.task
  have df : DiffB C H4 x1 x2 := diffB n1.task n2 (Same.refl _)
  obtain ⟨dy1, ay1, by1, e1, _⟩ := id tOne
  obtain ⟨dy2, ay2, by2, e2, _⟩ := id tTwo
  refine ⟨_, rfl, _, rfl, x1, _, _, x2, _, _, rfl, rfl, e1, e2, x1, .ref x2, houseT t x, rfl, tOne, hW.srt, .inl ⟨x2, houseT t x, rfl, tTwo, hW.srt, _, rfl, ?_⟩⟩
  rw [sameTD_of (fun _ _ => rfl) rfl]
  refine ⟨_, rfl, iteF ?_⟩
  refine ⟨_, rfl, x2, dy2, _, rfl, e2, flds_no _ _ (by decide) (by decide), ?_⟩
  refine ⟨rfl, x2, 1, houseT t x, rfl, by decide, tTwo.r, ?_⟩
  refine ⟨_, rfl, x2, dy2, _, rfl, e2, flds_no _ _ (by decide) (by decide), ?_⟩
  refine ⟨x2, 1, houseT t x, rfl, by decide, tTwo.r, rfl, _, rfl, iteF' (by simp) ?_⟩
  -- swapped
  have le60 : ∀ e ∈ (houseT t x).bo, e.2.length ≤ 60 := fun e he => by
    rcases List.mem_cons.mp he with rfl | he
    · show 3 ≤ 60; decide
    · obtain rfl := List.mem_singleton.mp he
      show 1 ≤ 60; decide
  refine ⟨_, rfl, rfl, rfl, x1, _, rfl, tOne, hW, le60, fun x3 U H5 n3 sw hWU => ?_⟩
  refine ⟨_, rfl, x1, _, rfl, TaskAt.mono n3.1 tOne, hW, le60, fun x4 U' H6 n4 sw' hWU' => ?_⟩
  have t3_ := TaskAt.mono n4.1 n3.task
  obtain ⟨dz1, _, _, ez1, _⟩ := id t3_
  obtain ⟨dz2, _, _, ez2, _⟩ := id n4.task
  refine ⟨x3, _, _, x4, _, _, rfl, rfl, ez1, ez2, x3, .ref x4, U, rfl, t3_, hWU.srt, .inl ⟨x4, U', rfl, n4.task, hWU'.srt, _, rfl, ?_⟩⟩
  rw [sw.same sw']
  refine ⟨_, rfl, iteF ?_⟩
  have s46 := n3.1.trans n4.1
  clear n3 n4 t3_ ez1 ez2 sw sw' hWU hWU'
  have tOne := TaskAt.mono s46 tOne
  have tTwo := TaskAt.mono s46 tTwo
  have df6 : DiffB C H6 x1 x2 := diffB n1.task n2 s46
  have s26 := s24.trans s46
  -- joint
  refine ⟨_, rfl, _, rfl, rfl, rfl, x1, x2, _, _, rfl, tOne, tTwo, hW, hW, hL, hL, house_one, (by show 2 * 2 ≤ 60; decide), df6, fun x3 U H7 n3 jn hWU => ?_⟩
  have df7 : DiffB C H7 x1 x2 := diffB n1.task n2 (s46.trans n3.1)
  refine ⟨_, rfl, _, rfl, x1, x2, _, _, rfl, TaskAt.mono n3.1 tOne, TaskAt.mono n3.1 tTwo, hW, hW, hL, hL, house_one, (by show 2 * 2 ≤ 60; decide), df7, fun x4 U' H8 n4 jn' hWU' => ?_⟩
  have t3_ := TaskAt.mono n4.1 n3.task
  obtain ⟨dz1, _, _, ez1, _⟩ := id t3_
  obtain ⟨dz2, _, _, ez2, _⟩ := id n4.task
  refine ⟨x3, _, _, x4, _, _, rfl, rfl, ez1, ez2, x3, .ref x4, U, rfl, t3_, hWU.srt, .inl ⟨x4, U', rfl, n4.task, hWU'.srt, _, rfl, ?_⟩⟩
  rw [jn.same jn']
  refine ⟨_, rfl, iteF ?_⟩
  have s28 := s26.trans (n3.1.trans n4.1)
  have n1 : NewT C H2 H8 x1 (houseT t x) := NewT.on n1 (n2.1.trans (s46.trans (n3.1.trans n4.1)))
  clear n3 n4 t3_ ez1 ez2 jn jn' hWU hWU' df6 df7 s46 s26 tOne tTwo n2
  have ks := ks.same s28
  have w3 := w2.same s28
  -- the size
  refine ⟨_, rfl, st, _, 5, rfl, .inr w3, by decide, by decide, by decide, by decide, fun r H9 r0 r1 b9 w9 => ⟨_, _, rfl, rfl, ?_⟩⟩
  obtain ⟨m, hm⟩ : ∃ m : Nat, 2 + r = (m : Int) := ⟨(2 + r).toNat, by omega⟩
  have m1 : 2 ≤ m := by omega
  have m6 : m ≤ 6 := by omega
  show gName 7 (V.int (2 + r)) _ _ _
  rw [hm]
  clear hm r0 r1 r
  obtain ⟨_, _, _, ew3, _⟩ := id w3
  obtain ⟨_, _, _, ew2, _⟩ := id w2
  have g2 : H2 st ≠ none := by rw [ew2]; exact fun c => (nomatch c)
  have b89 := b9
  have ks := ks.new b9 hst
  refine ⟨_, rfl, rfl, rfl, m, rfl, by omega, by omega, fun x3 I1 n3 => ?_⟩
  refine ⟨_, rfl, m, rfl, by omega, by omega, fun x4 I2 n4 => ?_⟩
  have t3_ := TaskAt.mono n4.1 n3.task
  obtain ⟨dz1, _, _, ez1, _⟩ := id t3_
  obtain ⟨dz2, _, _, ez2, _⟩ := id n4.task
  have hWn := near_wf (n := m) (by omega) (by omega)
  refine ⟨x3, _, _, x4, _, _, rfl, rfl, ez1, ez2, x3, .ref x4, _, rfl, t3_, hWn.srt, .inl ⟨x4, _, rfl, n4.task, hWn.srt, _, rfl, ?_⟩⟩
  rw [sameTD_of (fun _ _ => rfl) rfl]
  refine ⟨_, rfl, iteF' (by simp) ?_⟩
  have s92 := n3.1.trans n4.1
  clear n3 n4 t3_ ez1 ez2 hWn
  refine ⟨_, rfl, rfl, rfl, m, rfl, by omega, by omega, fun x3 I3 n3 => ?_⟩
  refine ⟨_, rfl, m, rfl, by omega, by omega, fun x4 I4 n4 => ?_⟩
  have t3_ := TaskAt.mono n4.1 n3.task
  obtain ⟨dz1, _, _, ez1, _⟩ := id t3_
  obtain ⟨dz2, _, _, ez2, _⟩ := id n4.task
  have hWn := apart_wf (n := m) (by omega) (by omega)
  refine ⟨x3, _, _, x4, _, _, rfl, rfl, ez1, ez2, x3, .ref x4, _, rfl, t3_, hWn.srt, .inl ⟨x4, _, rfl, n4.task, hWn.srt, _, rfl, ?_⟩⟩
  rw [sameTD_of (fun _ _ => rfl) rfl]
  refine ⟨_, rfl, iteF ?_⟩
  have s94 := s92.trans (n3.1.trans n4.1)
  clear n3 n4 t3_ ez1 ez2 hWn s92
  have b84 : But st H8 I4 := fun b o ne e => s94 _ _ (b89 b o ne e)
  have ks := ks.same s94
  have w4 := w9.same s94
  have tOne := n1.well g2 ew3 b84
  have nobar : ∀ {h a : Nat}, h < 2 → a < ((houseT t x).al h).length → ¬ TB.canB (houseT t x) h a = false := fun hh ha c => by
    rw [house_can t1 t3 hx _ _ hh ha] at c
    cases c
  refine ⟨_, rfl, rfl, rfl, x1, _, rfl, tOne, hV, fun J1 b ch tt al an ra rb d0 d1 s1 B1 hl hg => ?_, fun _ _ _ _ _ _ _ _ _ _ _ hh ha hc => (nobar hh ha hc).elim⟩
  refine ⟨b, _, rfl, SqT.of B1.h_r, rfl, _, _, rfl, _, _, rfl, rfl, ?_⟩
  have X0 : TaskX C J1 x1 (houseT t x) d0 := TaskX.new s1 tOne B1.f2
  have X1 : TaskX C J1 x1 (houseT t x) d1 := TaskX.new s1 tOne B1.f1
  have B := B1.t
  clear B1
  have b81 : But st H8 J1 := fun b o ne e => s1 _ _ (b84 b o ne e)
  have ks := ks.same s1
  have w5 := w4.same s1
  refine ⟨_, rfl, _, rfl, (by show 2 ≤ sizeLine; decide), fun tp htp => ?_⟩
  have st6 := same_new htp (.tup [V.str (Str.ofString "boxed"), V.ref tt])
  have etp : (upd J1 tp (.tup [V.str (Str.ofString "boxed"), V.ref tt])) tp = _ := upd_same
  generalize upd J1 tp (.tup [V.str (Str.ofString "boxed"), V.ref tt]) = J2 at st6 etp ⊢
  refine ⟨_, rfl, x1, _, rfl, TaskAt.mono (s1.trans st6) tOne, hV, fun J3 b' ch' tt' al' an' ra' rb' d0' d1' s3 B' hl' hg' => ?_, fun _ _ _ _ _ _ _ _ _ _ _ hh ha hc => (nobar hh ha hc).elim⟩
  refine ⟨5, true, by decide, rcx_tup2 (s3 _ _ etp) B'.h_r (eqx_str (by decide +kernel)) (eqx_told hW.srt (B.mono (st6.trans s3)) B'.t (good_same hl hl' hg hg')), _, rfl, iteF ?_⟩
  have s13 := st6.trans s3
  clear st6 s3 etp htp B' hl' hg' b' ch' tt' al' an' ra' rb' d0' d1'
  have B := B.mono s13
  have X0 := X0.mono s13
  have X1 := X1.mono s13
  have b83 : But st H8 J3 := fun b o ne e => s13 _ _ (b81 b o ne e)
  have ks := ks.same s13
  have w6 := w5.same s13
  refine ⟨_, rfl, rfl, _, rfl, iteF' (by decide +kernel) (iteF' rfl ?_)⟩
  refine ⟨_, rfl, rfl, _, rfl, ?_⟩
  refine iteT' (by decide +kernel) ?_
  refine ⟨(by show 5 ≤ sizeLine; decide), fun p5 hp5 => ?_⟩
  have s5 := same_new hp5 (.lst [V.int 0, V.int 0, V.int 1, V.int 1, V.int 1])
  have e5 : (upd J3 p5 (.lst [V.int 0, V.int 0, V.int 1, V.int 1, V.int 1])) p5 = _ := upd_same
  generalize upd J3 p5 (.lst [V.int 0, V.int 0, V.int 1, V.int 1, V.int 1]) = J4 at s5 e5 ⊢
  have B := B.mono s5
  have X0 := X0.mono s5
  have X1 := X1.mono s5
  have b84 : But st H8 J4 := fun b o ne e => s5 _ _ (b83 b o ne e)
  have ks := ks.same s5
  have w7 := w6.same s5
  have n5 : p5 ≠ st := by
    obtain ⟨_, _, _, e, _⟩ := id w6
    exact (ne_of_none e hp5).symm
  refine ⟨_, rfl, st, _, 6, rfl, .inr w7, by decide, by decide, by decide, by decide, fun r J5 r0 r1 b10 w10 => ⟨_, rfl, ?_⟩⟩
  obtain ⟨ws, ecut, hw01, hw20, hwb⟩ := cut_row r0 r1
  refine ⟨p5, _, rfl, SqL.of (b10 _ _ n5 e5), fun lw hlw => ?_⟩
  rw [ecut]
  obtain ⟨_, _, _, ew7, _⟩ := id w7
  have len3 : ∀ h, h < 2 → (ch h).length < 3 := fun h hh => by
    rw [hl h hh]
    obtain rfl | rfl : h = 0 ∨ h = 1 := by omega
    · show 1 < 3; decide
    · show 2 < 3; decide
  have k10 : ∀ o : HO, (∀ zs, o ≠ .lst zs) → J4 x1 = some o → J5 x1 = some o := fun o hn e => b10 _ _ (fun c => by
    rw [c, ew7] at e
    injection e with e
    exact hn _ e.symm) e
  have tOne := n1.well g2 ew3 (H' := J5) fun b o ne e => b10 b o ne (b84 b o ne e)
  have s6 := same_new hlw (.lst (ws.map V.int))
  have elw : (upd J5 lw (.lst (ws.map V.int))) lw = some (.lst (ws.map V.int)) := upd_same
  have B := (B.well ew7 len3 b10).mono s6
  have X0 := (X0.at tOne k10).mono s6
  have X1 := (X1.at tOne k10).mono s6
  have ks := (ks.new b10 hst).same s6
  generalize upd J5 lw (.lst (ws.map V.int)) = J6 at s6 elw B X0 X1 ks ⊢
  clear b10 w10 k10 tOne ew7 w7 n5 hlw e5 hp5 s5 ecut r0 r1 b84 b83 w6 s6
  have BF := BxT.f (H0 := J6) B hV X0 X1 hl hg
  have good : (∀ h a, h < 2 → a < ((houseT t x).al h).length → TB.okA (houseT t x) ch h a) ∧ ∀ h, h < 2 → ∀ e ∈ (houseT t x).bo, okAns ch (ansO ch) h e := ⟨fun h a hh ha => (hg h a hh ha).1, fun h hh e he => (ans_in hV hl hg hh he).1⟩
  refine ⟨_, rfl, _, rfl, rfl, rfl, x1, tt, _, ch, _, al, an, d0, d1, rfl, hV, BF, fun fv J7 s7 res => ?_⟩
  rcases res with ⟨rfl, _⟩ | ⟨_, no⟩
  rotate_left
  · exact (no good).elim
  refine ⟨_, rfl, _, rfl, x1, tt, _, ch, _, al, an, d0, d1, rfl, hV, BF.mono s7, fun fv J8 s8 res => ?_⟩
  rcases res with ⟨rfl, _⟩ | ⟨_, no⟩
  rotate_left
  · exact (no good).elim
  refine ⟨.none, .none, .non, .non, (ok_non (n := 0)).shaped (by decide), (ok_non (n := 0)).shaped (by decide), _, rfl, iteF' (by decide +kernel) ?_⟩
  have s9 := s7.trans s8
  have BF := BF.mono s9
  have elw := s9 _ _ elw
  have ks := ks.same s9
  clear s7 s8 s9 good
  have mem : ((0, 1), [(x, (t : Int))]) ∈ (houseT t x).bo := List.mem_cons_of_mem _ (List.mem_singleton.mpr rfl)
  refine ⟨_, rfl, (by show 2 ≤ sizeLine; decide), fun ti hti => ?_⟩
  have s10 := same_new hti (.tup [V.int 0, V.int 1])
  have eti : (upd J8 ti (.tup [V.int 0, V.int 1])) ti = some (.tup [V.int 0, V.int 1]) := upd_same
  generalize upd J8 ti (.tup [V.int 0, V.int 1]) = J9 at s10 eti ⊢
  refine ⟨_, rfl, _, rfl, rfl, rfl, x1, tt, _, ch, _, al, an, d0, d1, ti, lw, ws, _, rfl, hV, BF.mono s10, mem, ⟨ti, rfl, eti⟩, s10 _ _ elw, hw01, hw20, hwb, fun ra K1 s11 er => ?_⟩
  refine ⟨_, rfl, _, rfl, (by show 2 ≤ sizeLine; decide), fun tj htj => ?_⟩
  have s12 := same_new htj (.tup [V.int 0, V.int 1])
  have etj : (upd K1 tj (.tup [V.int 0, V.int 1])) tj = some (.tup [V.int 0, V.int 1]) := upd_same
  generalize upd K1 tj (.tup [V.int 0, V.int 1]) = K2 at s12 etj ⊢
  have s13 := (s10.trans s11).trans s12
  refine ⟨_, rfl, x1, tt, _, ch, _, al, an, d0, d1, tj, lw, ws, _, rfl, hV, BF.mono s13, mem, ⟨tj, rfl, etj⟩, s13 _ _ elw, hw01, hw20, hwb, fun rb' K3 s14 er' => ?_⟩
  refine ⟨.tuple [oD _, oD _], .tuple [oD _, oD _], .tup (SqT.of (s14 _ _ (s12 _ _ er))) (.cons (dp_o _) (.cons (dp_o _) .nil)), .tup (SqT.of er') (.cons (dp_o _) (.cons (dp_o _) .nil)), (okD_o2 _ _).shaped (by decide), (okD_o2 _ _).shaped (by decide), ?_⟩
  rw [SeqAt.eqv_refl _ (SeqAt.canLay_of_shaped ((okD_o2 _ _).shaped (by decide)))]
  refine ⟨_, rfl, iteF' rfl ?_⟩
  exact ⟨hi16, _, _, _, _, _, _, _, _, _, _, rfl, (ks.same (s13.trans s14)).sql hS⟩
end
end TA

set_option Elab.async false
set_option maxRecDepth 100000
set_option maxHeartbeats 4000000
set_option linter.unusedVariables false
namespace TA
open PySem PySem.Spec L2 PyProof.Rows
def raiseB (K : PySem.W.Frag) (C : Addr) : Bool := decide (PySem.W.subIn K (.ref C) (.type "BaseException") = some true) && decide (PySem.W.typeIn K (.ref C) = some (.type "type"))
theorem raiseB_ok {K : PySem.W.Frag} {mg : Str → Option Value} {n : Str} {C : Addr} (h : raiseB K C = true) (m : mg n = some (.ref C)) (x : PySem.W.excIn K C [.type "ValueError", .type "Exception", .type "BaseException", .type "object"] "ValueError.__new__" = true) (k : PySem.W.keepIn K (.ref C) = true) : TB.RaiseC K mg n C := by
  obtain ⟨a, b⟩ := Bool.and_eq_true_iff.mp h
  exact ⟨m, x, k, of_decide_eq_true a, of_decide_eq_true b⟩
def excB (K : PySem.W.Frag) (D : Addr) : Bool :=
  decide (PySem.W.findIn K (.ref D) "__getattribute__" = some (some (.builtin "BaseException.__getattribute__"))) && (decide (PySem.W.findIn K (.ref D) "__getattr__" = some none) && (decide (PySem.W.subIn K (.ref D) (.type "BaseException") = some true) &&
  (PySem.W.hasDictIn K D && (decide (PySem.W.findIn K (.ref D) "__class__" = some (some (.builtin "object.__class__"))) && (decide (PySem.W.specialIn K (.builtin "object.__class__") "__get__" = some (some (.builtin "getset_descriptor.__get__"))) &&
  (decide (PySem.W.takesIn K (.builtin "object.__class__") = some true) && decide (PySem.W.mroIn K D (.type "object") = some true)))))))
theorem excB_ok {K : PySem.W.Frag} {D : Addr} (h : excB K D = true) : ExcC K D := by
  obtain ⟨a, h⟩ := Bool.and_eq_true_iff.mp h
  obtain ⟨b, h⟩ := Bool.and_eq_true_iff.mp h
  obtain ⟨c, h⟩ := Bool.and_eq_true_iff.mp h
  obtain ⟨d, h⟩ := Bool.and_eq_true_iff.mp h
  obtain ⟨e, h⟩ := Bool.and_eq_true_iff.mp h
  obtain ⟨f, h⟩ := Bool.and_eq_true_iff.mp h
  obtain ⟨g, h⟩ := Bool.and_eq_true_iff.mp h
  exact ⟨of_decide_eq_true a, of_decide_eq_true b, of_decide_eq_true c, d, of_decide_eq_true e, of_decide_eq_true f, of_decide_eq_true g, of_decide_eq_true h⟩
def beB (K : PySem.W.Frag) (C : Addr) : Bool := ["NoneType", "list", "tuple", "dict"].all fun n => decide (PySem.W.kitOne K (.type n) (.ref C) = some false) && decide (PySem.W.subIn K (.ref C) (.type n) = some false)
theorem beB_ok {K : PySem.W.Frag} {C : Addr} (h : beB K C = true) : (PySem.W.kitOne K (.type "NoneType") (.ref C) = some false ∧ PySem.W.kitOne K (.type "list") (.ref C) = some false ∧ PySem.W.kitOne K (.type "tuple") (.ref C) = some false ∧ PySem.W.kitOne K (.type "dict") (.ref C) = some false) ∧ Beside K C := by
  have all := fun n hn => Bool.and_eq_true_iff.mp (List.all_eq_true.mp h n hn)
  have k := fun n hn => of_decide_eq_true (all n hn).1
  have s := fun n hn => of_decide_eq_true (all n hn).2
  exact ⟨⟨k _ (by simp), k _ (by simp), k _ (by simp), k _ (by simp)⟩, ⟨s _ (by simp), s _ (by simp), s _ (by simp), s _ (by simp)⟩⟩
theorem all_mk {l : PySem.W.OpenLaw} {w : World} {K : PySem.W.Frag} {h : Heap} {mg : Str → Option Value} {fa f1 f2 f3 f4 f5 f6 f7 f8 f9 f10 f11 f12 f13 f14 f15 f16 f17 f18 f19 f20 f21 f22 f23 f24 f25 f26 f27 f28 f29 f30 f31 f32 f33 f34 f35 f36 f37 f38 f39 f40 f41 hA0 cW C y1 y2 y3 y4 : Addr} (X : K.In h) (G : h.Ns mainGlobals mg) (hfa : mg "law" = some (.ref fa))
    {od1 an1 od2 an2 od3 an3 od4 an4 od5 an5 od6 an6 od7 an7 od8 an8 od9 an9 od10 an10 od11 an11 od12 an12 od13 an13 od14 an14 od15 an15 od16 an16 od17 an17 od18 an18 od19 an19 od20 an20 od21 an21 od22 an22 od23 an23 od24 an24 od25 an25 od26 an26 od27 an27 od28 an28 od29 an29 od30 an30 od31 an31 od32 an32 od33 an33 od34 an34 od35 an35 od36 an36 od37 an37 od38 an38 od39 an39 od40 an40 od41 an41 odH0 : Option Addr} {sl1 sl2 sl3 sl4 sl5 sl6 sl7 sl8 sl9 sl10 sl11 sl12 sl13 sl14 sl15 sl16 sl17 sl18 sl19 sl20 sl21 sl22 sl23 sl24 sl25 sl26 sl27 sl28 sl29 sl30 sl31 sl32 sl33 sl34 sl35 sl36 sl37 sl38 sl39 sl40 sl41 slH0 : Array (Option Value)} {oc1 kV1 dc1 pm1 cd1 ct1 oc2 kV2 dc2 pm2 cd2 ct2 oc3 kV3 dc3 pm3 cd3 ct3 oc4 kV4 dc4 pm4 cd4 ct4 oc5 kV5 dc5 pm5 cd5 ct5 oc6 kV6 dc6 pm6 cd6 ct6 oc7 kV7 dc7 pm7 cd7 ct7 oc8 kV8 dc8 pm8 cd8 ct8 oc9 kV9 dc9 pm9 cd9 ct9 oc10 kV10 dc10 pm10 cd10 ct10 oc11 kV11 dc11 pm11 cd11 ct11 oc12 kV12 dc12 pm12 cd12 ct12 oc13 kV13 dc13 pm13 cd13 ct13 oc14 kV14 dc14 pm14 cd14 ct14 oc15 kV15 dc15 pm15 cd15 ct15 oc16 kV16 dc16 pm16 cd16 ct16 oc17 kV17 dc17 pm17 cd17 ct17 oc18 kV18 dc18 pm18 cd18 ct18 oc19 kV19 dc19 pm19 cd19 ct19 oc20 kV20 dc20 pm20 cd20 ct20 oc21 kV21 dc21 pm21 cd21 ct21 oc22 kV22 dc22 pm22 cd22 ct22 oc23 kV23 dc23 pm23 cd23 ct23 oc24 kV24 dc24 pm24 cd24 ct24 oc25 kV25 dc25 pm25 cd25 ct25 oc26 kV26 dc26 pm26 cd26 ct26 oc27 kV27 dc27 pm27 cd27 ct27 oc28 kV28 dc28 pm28 cd28 ct28 oc29 kV29 dc29 pm29 cd29 ct29 oc30 kV30 dc30 pm30 cd30 ct30 oc31 kV31 dc31 pm31 cd31 ct31 oc32 kV32 dc32 pm32 cd32 ct32 oc33 kV33 dc33 pm33 cd33 ct33 oc34 kV34 dc34 pm34 cd34 ct34 oc35 kV35 dc35 pm35 cd35 ct35 oc36 kV36 dc36 pm36 cd36 ct36 oc37 kV37 dc37 pm37 cd37 ct37 oc38 kV38 dc38 pm38 cd38 ct38 oc39 kV39 dc39 pm39 cd39 ct39 oc40 kV40 dc40 pm40 cd40 ct40 oc41 kV41 dc41 pm41 cd41 ct41 : Value} {tI0 tI1 tI2 tI3 tI4 tT0_0 tT0_1 : Tok} {nH0 : Nat}
    {yod1 yan1 yod2 yan2 yod3 yan3 yod4 yan4 : Option Addr} {ysl1 ysl2 ysl3 ysl4 : Array (Option Value)} {yoc1 ykV1 ydc1 ypm1 ycd1 yct1 yoc2 ykV2 ydc2 ypm2 ycd2 yct2 yoc3 ykV3 ydc3 ypm3 ycd3 yct3 yoc4 ykV4 ydc4 ypm4 ycd4 yct4 : Value}
    (aC : PySem.W.nsIn K mainGlobals "Task" = some (some (.ref C)))
    (ya1 : PySem.W.findIn K (.ref C) "__init__" = some (some (.ref y1))) (yi1 : PySem.W.isFn K (.ref y1) = true) (yl1 : K.lookup y1 = some ⟨yoc1, yod1, .func (PySem.W.fnOf "__init__" "Task.__init__" (defArgs s_init) (defBody s_init) (defScope s_init) .none ykV1 ydc1 ypm1 yan1 ycd1 yct1), ysl1⟩) (yc1 : PySem.W.codeIn K ycd1 "Task.__init__" = true) (yk1 : PySem.W.keepIn K (.ref y1) = true)
    (ya2 : PySem.W.findIn K (.ref C) "inputs" = some (some (.ref y2))) (yi2 : PySem.W.isFn K (.ref y2) = true) (yl2 : K.lookup y2 = some ⟨yoc2, yod2, .func (PySem.W.fnOf "inputs" "Task.inputs" (defArgs s_inputs) (defBody s_inputs) (defScope s_inputs) .none ykV2 ydc2 ypm2 yan2 ycd2 yct2), ysl2⟩) (yc2 : PySem.W.codeIn K ycd2 "Task.inputs" = true) (yk2 : PySem.W.keepIn K (.ref y2) = true)
    (ya3 : PySem.W.findIn K (.ref C) "pairs" = some (some (.ref y3))) (yi3 : PySem.W.isFn K (.ref y3) = true) (yl3 : K.lookup y3 = some ⟨yoc3, yod3, .func (PySem.W.fnOf "pairs" "Task.pairs" (defArgs s_pairs) (defBody s_pairs) (defScope s_pairs) .none ykV3 ydc3 ypm3 yan3 ycd3 yct3), ysl3⟩) (yc3 : PySem.W.codeIn K ycd3 "Task.pairs" = true) (yk3 : PySem.W.keepIn K (.ref y3) = true)
    (ya4 : PySem.W.findIn K (.ref C) "__eq__" = some (some (.ref y4))) (yi4 : PySem.W.isFn K (.ref y4) = true) (yl4 : K.lookup y4 = some ⟨yoc4, yod4, .func (PySem.W.fnOf "__eq__" "Task.__eq__" (defArgs s_eq) (defBody s_eq) (defScope s_eq) .none ykV4 ydc4 ypm4 yan4 ycd4 yct4), ysl4⟩) (yc4 : PySem.W.codeIn K ycd4 "Task.__eq__" = true) (yk4 : PySem.W.keepIn K (.ref y4) = true)
    (pg : PySem.W.plainGet K C Str.empty = true) (hd : PySem.W.hasDictIn K C = true) (po : PySem.W.plainOver K C = true) (sa : PySem.W.findIn K (.ref C) "__setattr__" = some (some (.builtin "object.__setattr__"))) (mkC : PySem.W.makesIn K C = true) (kC : PySem.W.keepIn K (.ref C) = true) (nA : PySem.W.findIn K (.ref C) "alone" = some none) (nB : PySem.W.findIn K (.ref C) "both" = some none)
    (a1 : PySem.W.nsIn K mainGlobals "is_whole" = some (some (.ref f1))) (l1 : K.lookup f1 = some ⟨oc1, od1, .func (PySem.W.fnOf "is_whole" "is_whole" (defArgs sWhole) (defBody sWhole) (defScope sWhole) .none kV1 dc1 pm1 an1 cd1 ct1), sl1⟩) (c1 : PySem.W.codeIn K cd1 "is_whole" = true) (k1 : PySem.W.keepIn K (.ref f1) = true)
    (a2 : PySem.W.nsIn K mainGlobals "is_whole_within" = some (some (.ref f2))) (l2 : K.lookup f2 = some ⟨oc2, od2, .func (PySem.W.fnOf "is_whole_within" "is_whole_within" (defArgs sWithin) (defBody sWithin) (defScope sWithin) .none kV2 dc2 pm2 an2 cd2 ct2), sl2⟩) (c2 : PySem.W.codeIn K cd2 "is_whole_within" = true) (k2 : PySem.W.keepIn K (.ref f2) = true)
    (a3 : PySem.W.nsIn K mainGlobals "is_hand" = some (some (.ref f3))) (l3 : K.lookup f3 = some ⟨oc3, od3, .func (PySem.W.fnOf "is_hand" "is_hand" (defArgs sHand) (defBody sHand) (defScope sHand) .none kV3 dc3 pm3 an3 cd3 ct3), sl3⟩) (c3 : PySem.W.codeIn K cd3 "is_hand" = true) (k3 : PySem.W.keepIn K (.ref f3) = true)
    (a4 : PySem.W.nsIn K mainGlobals "is_rising" = some (some (.ref f4))) (l4 : K.lookup f4 = some ⟨oc4, od4, .func (PySem.W.fnOf "is_rising" "is_rising" (defArgs s_is_rising) (defBody s_is_rising) (defScope s_is_rising) .none kV4 dc4 pm4 an4 cd4 ct4), sl4⟩) (c4 : PySem.W.codeIn K cd4 "is_rising" = true) (k4 : PySem.W.keepIn K (.ref f4) = true)
    (a5 : PySem.W.nsIn K mainGlobals "is_output" = some (some (.ref f5))) (l5 : K.lookup f5 = some ⟨oc5, od5, .func (PySem.W.fnOf "is_output" "is_output" (defArgs s_is_output) (defBody s_is_output) (defScope s_is_output) .none kV5 dc5 pm5 an5 cd5 ct5), sl5⟩) (c5 : PySem.W.codeIn K cd5 "is_output" = true) (k5 : PySem.W.keepIn K (.ref f5) = true)
    (a6 : PySem.W.nsIn K mainGlobals "is_outputs" = some (some (.ref f6))) (l6 : K.lookup f6 = some ⟨oc6, od6, .func (PySem.W.fnOf "is_outputs" "is_outputs" (defArgs s_is_outputs) (defBody s_is_outputs) (defScope s_is_outputs) .none kV6 dc6 pm6 an6 cd6 ct6), sl6⟩) (c6 : PySem.W.codeIn K cd6 "is_outputs" = true) (k6 : PySem.W.keepIn K (.ref f6) = true)
    (a7 : PySem.W.nsIn K mainGlobals "is_rows" = some (some (.ref f7))) (l7 : K.lookup f7 = some ⟨oc7, od7, .func (PySem.W.fnOf "is_rows" "is_rows" (defArgs s_is_rows) (defBody s_is_rows) (defScope s_is_rows) .none kV7 dc7 pm7 an7 cd7 ct7), sl7⟩) (c7 : PySem.W.codeIn K cd7 "is_rows" = true) (k7 : PySem.W.keepIn K (.ref f7) = true)
    (a8 : PySem.W.nsIn K mainGlobals "is_alone" = some (some (.ref f8))) (l8 : K.lookup f8 = some ⟨oc8, od8, .func (PySem.W.fnOf "is_alone" "is_alone" (defArgs s_is_alone) (defBody s_is_alone) (defScope s_is_alone) .none kV8 dc8 pm8 an8 cd8 ct8), sl8⟩) (c8 : PySem.W.codeIn K cd8 "is_alone" = true) (k8 : PySem.W.keepIn K (.ref f8) = true)
    (a9 : PySem.W.nsIn K mainGlobals "is_output_pair" = some (some (.ref f9))) (l9 : K.lookup f9 = some ⟨oc9, od9, .func (PySem.W.fnOf "is_output_pair" "is_output_pair" (defArgs s_is_output_pair) (defBody s_is_output_pair) (defScope s_is_output_pair) .none kV9 dc9 pm9 an9 cd9 ct9), sl9⟩) (c9 : PySem.W.codeIn K cd9 "is_output_pair" = true) (k9 : PySem.W.keepIn K (.ref f9) = true)
    (a10 : PySem.W.nsIn K mainGlobals "is_let" = some (some (.ref f10))) (l10 : K.lookup f10 = some ⟨oc10, od10, .func (PySem.W.fnOf "is_let" "is_let" (defArgs s_is_let) (defBody s_is_let) (defScope s_is_let) .none kV10 dc10 pm10 an10 cd10 ct10), sl10⟩) (c10 : PySem.W.codeIn K cd10 "is_let" = true) (k10 : PySem.W.keepIn K (.ref f10) = true)
    (a11 : PySem.W.nsIn K mainGlobals "is_input_pair" = some (some (.ref f11))) (l11 : K.lookup f11 = some ⟨oc11, od11, .func (PySem.W.fnOf "is_input_pair" "is_input_pair" (defArgs s_is_input_pair) (defBody s_is_input_pair) (defScope s_is_input_pair) .none kV11 dc11 pm11 an11 cd11 ct11), sl11⟩) (c11 : PySem.W.codeIn K cd11 "is_input_pair" = true) (k11 : PySem.W.keepIn K (.ref f11) = true)
    (a12 : PySem.W.nsIn K mainGlobals "each_comes" = some (some (.ref f12))) (l12 : K.lookup f12 = some ⟨oc12, od12, .func (PySem.W.fnOf "each_comes" "each_comes" (defArgs s_each_comes) (defBody s_each_comes) (defScope s_each_comes) .none kV12 dc12 pm12 an12 cd12 ct12), sl12⟩) (c12 : PySem.W.codeIn K cd12 "each_comes" = true) (k12 : PySem.W.keepIn K (.ref f12) = true)
    (a13 : PySem.W.nsIn K mainGlobals "is_both" = some (some (.ref f13))) (l13 : K.lookup f13 = some ⟨oc13, od13, .func (PySem.W.fnOf "is_both" "is_both" (defArgs s_is_both) (defBody s_is_both) (defScope s_is_both) .none kV13 dc13 pm13 an13 cd13 ct13), sl13⟩) (c13 : PySem.W.codeIn K cd13 "is_both" = true) (k13 : PySem.W.keepIn K (.ref f13) = true)
    (a14 : PySem.W.nsIn K mainGlobals "is_pair" = some (some (.ref f14))) (l14 : K.lookup f14 = some ⟨oc14, od14, .func (PySem.W.fnOf "is_pair" "is_pair" (defArgs s_is_pair) (defBody s_is_pair) (defScope s_is_pair) .none kV14 dc14 pm14 an14 cd14 ct14), sl14⟩) (c14 : PySem.W.codeIn K cd14 "is_pair" = true) (k14 : PySem.W.keepIn K (.ref f14) = true)
    (a15 : PySem.W.nsIn K mainGlobals "is_row" = some (some (.ref f15))) (l15 : K.lookup f15 = some ⟨oc15, od15, .func (PySem.W.fnOf "is_row" "is_row" (defArgs s_is_row) (defBody s_is_row) (defScope s_is_row) .none kV15 dc15 pm15 an15 cd15 ct15), sl15⟩) (c15 : PySem.W.codeIn K cd15 "is_row" = true) (k15 : PySem.W.keepIn K (.ref f15) = true)
    (a16 : PySem.W.nsIn K mainGlobals "is_chosen" = some (some (.ref f16))) (l16 : K.lookup f16 = some ⟨oc16, od16, .func (PySem.W.fnOf "is_chosen" "is_chosen" (defArgs s_is_chosen) (defBody s_is_chosen) (defScope s_is_chosen) .none kV16 dc16 pm16 an16 cd16 ct16), sl16⟩) (c16 : PySem.W.codeIn K cd16 "is_chosen" = true) (k16 : PySem.W.keepIn K (.ref f16) = true)
    (a17 : PySem.W.nsIn K mainGlobals "alone_fault" = some (some (.ref f17))) (l17 : K.lookup f17 = some ⟨oc17, od17, .func (PySem.W.fnOf "alone_fault" "alone_fault" (defArgs s_alone_fault) (defBody s_alone_fault) (defScope s_alone_fault) .none kV17 dc17 pm17 an17 cd17 ct17), sl17⟩) (c17 : PySem.W.codeIn K cd17 "alone_fault" = true) (k17 : PySem.W.keepIn K (.ref f17) = true)
    (a18 : PySem.W.nsIn K mainGlobals "is_answers" = some (some (.ref f18))) (l18 : K.lookup f18 = some ⟨oc18, od18, .func (PySem.W.fnOf "is_answers" "is_answers" (defArgs s_is_answers) (defBody s_is_answers) (defScope s_is_answers) .none kV18 dc18 pm18 an18 cd18 ct18), sl18⟩) (c18 : PySem.W.codeIn K cd18 "is_answers" = true) (k18 : PySem.W.keepIn K (.ref f18) = true)
    (a19 : PySem.W.nsIn K mainGlobals "is_boxed" = some (some (.ref f19))) (l19 : K.lookup f19 = some ⟨oc19, od19, .func (PySem.W.fnOf "is_boxed" "is_boxed" (defArgs s_is_boxed) (defBody s_is_boxed) (defScope s_is_boxed) .none kV19 dc19 pm19 an19 cd19 ct19), sl19⟩) (c19 : PySem.W.codeIn K cd19 "is_boxed" = true) (k19 : PySem.W.keepIn K (.ref f19) = true)
    (a20 : PySem.W.nsIn K mainGlobals "is_answered" = some (some (.ref f20))) (l20 : K.lookup f20 = some ⟨oc20, od20, .func (PySem.W.fnOf "is_answered" "is_answered" (defArgs s_is_answered) (defBody s_is_answered) (defScope s_is_answered) .none kV20 dc20 pm20 an20 cd20 ct20), sl20⟩) (c20 : PySem.W.codeIn K cd20 "is_answered" = true) (k20 : PySem.W.keepIn K (.ref f20) = true)
    (a21 : PySem.W.nsIn K mainGlobals "at_odds" = some (some (.ref f21))) (l21 : K.lookup f21 = some ⟨oc21, od21, .func (PySem.W.fnOf "at_odds" "at_odds" (defArgs s_at_odds) (defBody s_at_odds) (defScope s_at_odds) .none kV21 dc21 pm21 an21 cd21 ct21), sl21⟩) (c21 : PySem.W.codeIn K cd21 "at_odds" = true) (k21 : PySem.W.keepIn K (.ref f21) = true)
    (a22 : PySem.W.nsIn K mainGlobals "answers_to" = some (some (.ref f22))) (l22 : K.lookup f22 = some ⟨oc22, od22, .func (PySem.W.fnOf "answers_to" "answers_to" (defArgs s_answers_to) (defBody s_answers_to) (defScope s_answers_to) .none kV22 dc22 pm22 an22 cd22 ct22), sl22⟩) (c22 : PySem.W.codeIn K cd22 "answers_to" = true) (k22 : PySem.W.keepIn K (.ref f22) = true)
    (a23 : PySem.W.nsIn K mainGlobals "boxed" = some (some (.ref f23))) (l23 : K.lookup f23 = some ⟨oc23, od23, .func (PySem.W.fnOf "boxed" "boxed" (defArgs s_boxed) (defBody s_boxed) (defScope s_boxed) .none kV23 dc23 pm23 an23 cd23 ct23), sl23⟩) (c23 : PySem.W.codeIn K cd23 "boxed" = true) (k23 : PySem.W.keepIn K (.ref f23) = true)
    (a24 : PySem.W.nsIn K mainGlobals "answers_fault" = some (some (.ref f24))) (l24 : K.lookup f24 = some ⟨oc24, od24, .func (PySem.W.fnOf "answers_fault" "answers_fault" (defArgs s_answers_fault) (defBody s_answers_fault) (defScope s_answers_fault) .none kV24 dc24 pm24 an24 cd24 ct24), sl24⟩) (c24 : PySem.W.codeIn K cd24 "answers_fault" = true) (k24 : PySem.W.keepIn K (.ref f24) = true)
    (a25 : PySem.W.nsIn K mainGlobals "boxed_fault" = some (some (.ref f25))) (l25 : K.lookup f25 = some ⟨oc25, od25, .func (PySem.W.fnOf "boxed_fault" "boxed_fault" (defArgs s_boxed_fault) (defBody s_boxed_fault) (defScope s_boxed_fault) .none kV25 dc25 pm25 an25 cd25 ct25), sl25⟩) (c25 : PySem.W.codeIn K cd25 "boxed_fault" = true) (k25 : PySem.W.keepIn K (.ref f25) = true)
    (a26 : PySem.W.nsIn K mainGlobals "boxed_bar_fault" = some (some (.ref f26))) (l26 : K.lookup f26 = some ⟨oc26, od26, .func (PySem.W.fnOf "boxed_bar_fault" "boxed_bar_fault" (defArgs s_boxed_bar_fault) (defBody s_boxed_bar_fault) (defScope s_boxed_bar_fault) .none kV26 dc26 pm26 an26 cd26 ct26), sl26⟩) (c26 : PySem.W.codeIn K cd26 "boxed_bar_fault" = true) (k26 : PySem.W.keepIn K (.ref f26) = true)
    (a27 : PySem.W.nsIn K mainGlobals "winner" = some (some (.ref f27))) (l27 : K.lookup f27 = some ⟨oc27, od27, .func (PySem.W.fnOf "winner" "winner" (defArgs s_winner) (defBody s_winner) (defScope s_winner) .none kV27 dc27 pm27 an27 cd27 ct27), sl27⟩) (c27 : PySem.W.codeIn K cd27 "winner" = true) (k27 : PySem.W.keepIn K (.ref f27) = true)
    (a28 : PySem.W.nsIn K mainGlobals "is_boxed_weaving" = some (some (.ref f28))) (l28 : K.lookup f28 = some ⟨oc28, od28, .func (PySem.W.fnOf "is_boxed_weaving" "is_boxed_weaving" (defArgs s_is_boxed_weaving) (defBody s_is_boxed_weaving) (defScope s_is_boxed_weaving) .none kV28 dc28 pm28 an28 cd28 ct28), sl28⟩) (c28 : PySem.W.codeIn K cd28 "is_boxed_weaving" = true) (k28 : PySem.W.keepIn K (.ref f28) = true)
    (a29 : PySem.W.nsIn K mainGlobals "tell_boxed" = some (some (.ref f29))) (l29 : K.lookup f29 = some ⟨oc29, od29, .func (PySem.W.fnOf "tell_boxed" "tell_boxed" (defArgs s_tell_boxed) (defBody s_tell_boxed) (defScope s_tell_boxed) .none kV29 dc29 pm29 an29 cd29 ct29), sl29⟩) (c29 : PySem.W.codeIn K cd29 "tell_boxed" = true) (k29 : PySem.W.keepIn K (.ref f29) = true)
    (a30 : PySem.W.nsIn K mainGlobals "swapped" = some (some (.ref f30))) (l30 : K.lookup f30 = some ⟨oc30, od30, .func (PySem.W.fnOf "swapped" "swapped" (defArgs s_swapped) (defBody s_swapped) (defScope s_swapped) .none kV30 dc30 pm30 an30 cd30 ct30), sl30⟩) (c30 : PySem.W.codeIn K cd30 "swapped" = true) (k30 : PySem.W.keepIn K (.ref f30) = true)
    (a31 : PySem.W.nsIn K mainGlobals "greatest_output" = some (some (.ref f31))) (l31 : K.lookup f31 = some ⟨oc31, od31, .func (PySem.W.fnOf "greatest_output" "greatest_output" (defArgs s_greatest_output) (defBody s_greatest_output) (defScope s_greatest_output) .none kV31 dc31 pm31 an31 cd31 ct31), sl31⟩) (c31 : PySem.W.codeIn K cd31 "greatest_output" = true) (k31 : PySem.W.keepIn K (.ref f31) = true)
    (a32 : PySem.W.nsIn K mainGlobals "joint_output" = some (some (.ref f32))) (l32 : K.lookup f32 = some ⟨oc32, od32, .func (PySem.W.fnOf "joint_output" "joint_output" (defArgs s_joint_output) (defBody s_joint_output) (defScope s_joint_output) .none kV32 dc32 pm32 an32 cd32 ct32), sl32⟩) (c32 : PySem.W.codeIn K cd32 "joint_output" = true) (k32 : PySem.W.keepIn K (.ref f32) = true)
    (a33 : PySem.W.nsIn K mainGlobals "joint_rows" = some (some (.ref f33))) (l33 : K.lookup f33 = some ⟨oc33, od33, .func (PySem.W.fnOf "joint_rows" "joint_rows" (defArgs s_joint_rows) (defBody s_joint_rows) (defScope s_joint_rows) .none kV33 dc33 pm33 an33 cd33 ct33), sl33⟩) (c33 : PySem.W.codeIn K cd33 "joint_rows" = true) (k33 : PySem.W.keepIn K (.ref f33) = true)
    (a34 : PySem.W.nsIn K mainGlobals "joint_let" = some (some (.ref f34))) (l34 : K.lookup f34 = some ⟨oc34, od34, .func (PySem.W.fnOf "joint_let" "joint_let" (defArgs s_joint_let) (defBody s_joint_let) (defScope s_joint_let) .none kV34 dc34 pm34 an34 cd34 ct34), sl34⟩) (c34 : PySem.W.codeIn K cd34 "joint_let" = true) (k34 : PySem.W.keepIn K (.ref f34) = true)
    (a35 : PySem.W.nsIn K mainGlobals "joint" = some (some (.ref f35))) (l35 : K.lookup f35 = some ⟨oc35, od35, .func (PySem.W.fnOf "joint" "joint" (defArgs s_joint) (defBody s_joint) (defScope s_joint) .none kV35 dc35 pm35 an35 cd35 ct35), sl35⟩) (c35 : PySem.W.codeIn K cd35 "joint" = true) (k35 : PySem.W.keepIn K (.ref f35) = true)
    (a36 : PySem.W.nsIn K mainGlobals "near" = some (some (.ref f36))) (l36 : K.lookup f36 = some ⟨oc36, od36, .func (PySem.W.fnOf "near" "near" (defArgs s_near) (defBody s_near) (defScope s_near) .none kV36 dc36 pm36 an36 cd36 ct36), sl36⟩) (c36 : PySem.W.codeIn K cd36 "near" = true) (k36 : PySem.W.keepIn K (.ref f36) = true)
    (a37 : PySem.W.nsIn K mainGlobals "apart" = some (some (.ref f37))) (l37 : K.lookup f37 = some ⟨oc37, od37, .func (PySem.W.fnOf "apart" "apart" (defArgs s_apart) (defBody s_apart) (defScope s_apart) .none kV37 dc37 pm37 an37 cd37 ct37), sl37⟩) (c37 : PySem.W.codeIn K cd37 "apart" = true) (k37 : PySem.W.keepIn K (.ref f37) = true)
    (a38 : PySem.W.nsIn K mainGlobals "_law_cell_at" = some (some (.ref f38))) (l38 : K.lookup f38 = some ⟨oc38, od38, .func (PySem.W.fnOf "_law_cell_at" "_law_cell_at" (defArgs sCell) (defBody sCell) (defScope sCell) .none kV38 dc38 pm38 an38 cd38 ct38), sl38⟩) (c38 : PySem.W.codeIn K cd38 "_law_cell_at" = true) (k38 : PySem.W.keepIn K (.ref f38) = true)
    (a39 : PySem.W.nsIn K mainGlobals "_law_digit" = some (some (.ref f39))) (l39 : K.lookup f39 = some ⟨oc39, od39, .func (PySem.W.fnOf "_law_digit" "_law_digit" (defArgs s__law_digit) (defBody s__law_digit) (defScope s__law_digit) .none kV39 dc39 pm39 an39 cd39 ct39), sl39⟩) (c39 : PySem.W.codeIn K cd39 "_law_digit" = true) (k39 : PySem.W.keepIn K (.ref f39) = true)
    (a40 : PySem.W.nsIn K mainGlobals "_law_house" = some (some (.ref f40))) (l40 : K.lookup f40 = some ⟨oc40, od40, .func (PySem.W.fnOf "_law_house" "_law_house" (defArgs s__law_house) (defBody s__law_house) (defScope s__law_house) .none kV40 dc40 pm40 an40 cd40 ct40), sl40⟩) (c40 : PySem.W.codeIn K cd40 "_law_house" = true) (k40 : PySem.W.keepIn K (.ref f40) = true)
    (a41 : PySem.W.nsIn K mainGlobals "law" = some (some (.ref f41))) (l41 : K.lookup f41 = some ⟨oc41, od41, .func (PySem.W.fnOf "law" "law" (defArgs sLaw) (defBody sLaw) (defScope sLaw) .none kV41 dc41 pm41 an41 cd41 ct41), sl41⟩) (c41 : PySem.W.codeIn K cd41 "law" = true) (k41 : PySem.W.keepIn K (.ref f41) = true)
    (z0 : PySem.W.nsIn K mainGlobals "isinstance" = some none)
    (z1 : PySem.W.nsIn K mainGlobals "int" = some none)
    (z2 : PySem.W.nsIn K mainGlobals "bool" = some none)
    (z3 : PySem.W.nsIn K mainGlobals "len" = some none)
    (z4 : PySem.W.nsIn K mainGlobals "range" = some none)
    (z5 : PySem.W.nsIn K mainGlobals "list" = some none)
    (z6 : PySem.W.nsIn K mainGlobals "tuple" = some none)
    (z7 : PySem.W.nsIn K mainGlobals "all" = some none)
    (z8 : PySem.W.nsIn K mainGlobals "sum" = some none)
    (z9 : PySem.W.nsIn K mainGlobals "min" = some none)
    (z10 : PySem.W.nsIn K mainGlobals "sorted" = some none)
    (z11 : PySem.W.nsIn K mainGlobals "set" = some none)
    (z12 : PySem.W.nsIn K mainGlobals "max" = some none)
    (z13 : PySem.W.nsIn K mainGlobals "zip" = some none)
    (z14 : PySem.W.nsIn K mainGlobals "dict" = some none)
    (z15 : PySem.W.nsIn K mainGlobals "abs" = some none)
    (i0 : PySem.W.nsIn K mainGlobals "MOST_OUTPUT" = some (some (.int 63 tI0)))
    (i1 : PySem.W.nsIn K mainGlobals "MOST_JOINED" = some (some (.int 7 tI1)))
    (i2 : PySem.W.nsIn K mainGlobals "MOST_NAMED" = some (some (.int 7 tI2)))
    (i3 : PySem.W.nsIn K mainGlobals "STEPS_TO_BOX" = some (some (.int 2 tI3)))
    (i4 : PySem.W.nsIn K mainGlobals "STEPS_OF_LOSER" = some (some (.int 3 tI4)))
    (t0 : PySem.W.nsIn K mainGlobals "HANDS" = some (some (.ref hA0))) (u0 : K.lookup hA0 = some ⟨.type "tuple", odH0, .seq (Array.mk [.int 0 tT0_0, .int 1 tT0_1]) nH0, slH0⟩)
    (n0 : PySem.W.nsIn K mainGlobals "NoWeaving" = some (some (.ref cW)))
    (q_cW : PySem.W.excIn K cW [.type "ValueError", .type "Exception", .type "BaseException", .type "object"] "ValueError.__new__" = true) (kk_cW : PySem.W.keepIn K (.ref cW) = true) (r_cW : raiseB K cW = true)
    (q1 : PySem.W.findIn K (.ref C) "__class__" = some (some (.builtin "object.__class__")))
    (q2 : PySem.W.specialIn K (.builtin "object.__class__") "__get__" = some (some (.builtin "getset_descriptor.__get__")))
    (q3 : PySem.W.takesIn K (.builtin "object.__class__") = some true)
    (q4 : PySem.W.mroIn K C (.type "object") = some true)
    (q5 : PySem.W.findIn K (.ref C) "__ne__" = some (some (.builtin "object.__ne__")))
    (q6 : PySem.W.subIn K (.ref C) (.type "object") = some true)
    (q7 : beB K C = true)
    : ∃ fd : FuncData, (∀ (s : Shared) (v : Value), BindsTo s fd ⟨[v], []⟩ [("_law_script", v)]) ∧ ∀ base : Heap, K.In base → base.Ns mainGlobals mg → FnOk l.prog w K mg base CX0 11 fa fd ["_law_script"] (spLaw K) := by
  have e := hfa.symm.trans (PySem.W.mg_of X G a41)
  cases e
  have F1 := fun_mk (st := sWhole) l1 c1 k1
  have b1 := F1.binds (ps := ["thing"]) fun _ _ _ _ _ _ us hl => match us, hl with | [_], _ => rfl
  have F2 := fun_mk (st := sWithin) l2 c2 k2
  have b2 := F2.binds (ps := ["thing", "least", "most"]) fun _ _ _ _ _ _ us hl => match us, hl with | [_, _, _], _ => rfl
  have F3 := fun_mk (st := sHand) l3 c3 k3
  have b3 := F3.binds (ps := ["thing"]) fun _ _ _ _ _ _ us hl => match us, hl with | [_], _ => rfl
  have F4 := fun_mk (st := s_is_rising) l4 c4 k4
  have b4 := F4.binds (ps := ["things"]) fun _ _ _ _ _ _ us hl => match us, hl with | [_], _ => rfl
  have F5 := fun_mk (st := s_is_output) l5 c5 k5
  have b5 := F5.binds (ps := ["thing"]) fun _ _ _ _ _ _ us hl => match us, hl with | [_], _ => rfl
  have F6 := fun_mk (st := s_is_outputs) l6 c6 k6
  have b6 := F6.binds (ps := ["thing"]) fun _ _ _ _ _ _ us hl => match us, hl with | [_], _ => rfl
  have F7 := fun_mk (st := s_is_rows) l7 c7 k7
  have b7 := F7.binds (ps := ["thing"]) fun _ _ _ _ _ _ us hl => match us, hl with | [_], _ => rfl
  have F8 := fun_mk (st := s_is_alone) l8 c8 k8
  have b8 := F8.binds (ps := ["thing"]) fun _ _ _ _ _ _ us hl => match us, hl with | [_], _ => rfl
  have F9 := fun_mk (st := s_is_output_pair) l9 c9 k9
  have b9 := F9.binds (ps := ["thing"]) fun _ _ _ _ _ _ us hl => match us, hl with | [_], _ => rfl
  have F10 := fun_mk (st := s_is_let) l10 c10 k10
  have b10 := F10.binds (ps := ["thing"]) fun _ _ _ _ _ _ us hl => match us, hl with | [_], _ => rfl
  have F11 := fun_mk (st := s_is_input_pair) l11 c11 k11
  have b11 := F11.binds (ps := ["thing", "alone"]) fun _ _ _ _ _ _ us hl => match us, hl with | [_, _], _ => rfl
  have F12 := fun_mk (st := s_each_comes) l12 c12 k12
  have b12 := F12.binds (ps := ["both", "alone", "hand"]) fun _ _ _ _ _ _ us hl => match us, hl with | [_, _, _], _ => rfl
  have F13 := fun_mk (st := s_is_both) l13 c13 k13
  have b13 := F13.binds (ps := ["thing", "alone"]) fun _ _ _ _ _ _ us hl => match us, hl with | [_, _], _ => rfl
  have F14 := fun_mk (st := s_is_pair) l14 c14 k14
  have b14 := F14.binds (ps := ["task", "thing"]) fun _ _ _ _ _ _ us hl => match us, hl with | [_, _], _ => rfl
  have F15 := fun_mk (st := s_is_row) l15 c15 k15
  have b15 := F15.binds (ps := ["thing", "many"]) fun _ _ _ _ _ _ us hl => match us, hl with | [_, _], _ => rfl
  have F16 := fun_mk (st := s_is_chosen) l16 c16 k16
  have b16 := F16.binds (ps := ["task", "thing"]) fun _ _ _ _ _ _ us hl => match us, hl with | [_, _], _ => rfl
  have F17 := fun_mk (st := s_alone_fault) l17 c17 k17
  have b17 := F17.binds (ps := ["task", "alone"]) fun _ _ _ _ _ _ us hl => match us, hl with | [_, _], _ => rfl
  have F18 := fun_mk (st := s_is_answers) l18 c18 k18
  have b18 := F18.binds (ps := ["task", "thing"]) fun _ _ _ _ _ _ us hl => match us, hl with | [_, _], _ => rfl
  have F19 := fun_mk (st := s_is_boxed) l19 c19 k19
  have b19 := F19.binds (ps := ["task", "thing"]) fun _ _ _ _ _ _ us hl => match us, hl with | [_, _], _ => rfl
  have F20 := fun_mk (st := s_is_answered) l20 c20 k20
  have b20 := F20.binds (ps := ["task", "pair", "hand", "output"]) fun _ _ _ _ _ _ us hl => match us, hl with | [_, _, _, _], _ => rfl
  have F21 := fun_mk (st := s_at_odds) l21 c21 k21
  have b21 := F21.binds (ps := ["task", "hand", "at", "output"]) fun _ _ _ _ _ _ us hl => match us, hl with | [_, _, _, _], _ => rfl
  have F22 := fun_mk (st := s_answers_to) l22 c22 k22
  have b22 := F22.binds (ps := ["task", "hand", "alone"]) fun _ _ _ _ _ _ us hl => match us, hl with | [_, _, _], _ => rfl
  have F23 := fun_mk (st := s_boxed) l23 c23 k23
  have b23 := F23.binds (ps := ["task"]) fun _ _ _ _ _ _ us hl => match us, hl with | [_], _ => rfl
  have F24 := fun_mk (st := s_answers_fault) l24 c24 k24
  have b24 := F24.binds (ps := ["task", "hand", "alone", "answers"]) fun _ _ _ _ _ _ us hl => match us, hl with | [_, _, _, _], _ => rfl
  have F25 := fun_mk (st := s_boxed_fault) l25 c25 k25
  have b25 := F25.binds (ps := ["task", "thing"]) fun _ _ _ _ _ _ us hl => match us, hl with | [_, _], _ => rfl
  have F26 := fun_mk (st := s_boxed_bar_fault) l26 c26 k26
  have b26 := F26.binds (ps := ["task", "thing"]) fun _ _ _ _ _ _ us hl => match us, hl with | [_, _], _ => rfl
  have F27 := fun_mk (st := s_winner) l27 c27 k27
  have b27 := F27.binds (ps := ["weaving"]) fun _ _ _ _ _ _ us hl => match us, hl with | [_], _ => rfl
  have F28 := fun_mk (st := s_is_boxed_weaving) l28 c28 k28
  have b28 := F28.binds (ps := ["thing"]) fun _ _ _ _ _ _ us hl => match us, hl with | [_], _ => rfl
  have F29 := fun_mk (st := s_tell_boxed) l29 c29 k29
  have b29 := F29.binds (ps := ["task", "boxed", "inputs", "weaving"]) fun _ _ _ _ _ _ us hl => match us, hl with | [_, _, _, _], _ => rfl
  have F30 := fun_mk (st := s_swapped) l30 c30 k30
  have b30 := F30.binds (ps := ["task"]) fun _ _ _ _ _ _ us hl => match us, hl with | [_], _ => rfl
  have F31 := fun_mk (st := s_greatest_output) l31 c31 k31
  have b31 := F31.binds (ps := ["task"]) fun _ _ _ _ _ _ us hl => match us, hl with | [_], _ => rfl
  have F32 := fun_mk (st := s_joint_output) l32 c32 k32
  have b32 := F32.binds (ps := ["x", "y"]) fun _ _ _ _ _ _ us hl => match us, hl with | [_, _], _ => rfl
  have F33 := fun_mk (st := s_joint_rows) l33 c33 k33
  have b33 := F33.binds (ps := ["rows", "others"]) fun _ _ _ _ _ _ us hl => match us, hl with | [_, _], _ => rfl
  have F34 := fun_mk (st := s_joint_let) l34 c34 k34
  have b34 := F34.binds (ps := ["let", "more"]) fun _ _ _ _ _ _ us hl => match us, hl with | [_, _], _ => rfl
  have F35 := fun_mk (st := s_joint) l35 c35 k35
  have b35 := F35.binds (ps := ["task", "other"]) fun _ _ _ _ _ _ us hl => match us, hl with | [_, _], _ => rfl
  have F36 := fun_mk (st := s_near) l36 c36 k36
  have b36 := F36.binds (ps := ["n"]) fun _ _ _ _ _ _ us hl => match us, hl with | [_], _ => rfl
  have F37 := fun_mk (st := s_apart) l37 c37 k37
  have b37 := F37.binds (ps := ["n"]) fun _ _ _ _ _ _ us hl => match us, hl with | [_], _ => rfl
  have F38 := fun_mk (st := sCell) l38 c38 k38
  have b38 := F38.binds (ps := ["_law_script", "_law_k"]) fun _ _ _ _ _ _ us hl => match us, hl with | [_, _], _ => rfl
  have F39 := fun_mk (st := s__law_digit) l39 c39 k39
  have b39 := F39.binds (ps := ["_law_state", "_law_base"]) fun _ _ _ _ _ _ us hl => match us, hl with | [_, _], _ => rfl
  have F40 := fun_mk (st := s__law_house) l40 c40 k40
  have b40 := F40.binds (ps := ["_law_state"]) fun _ _ _ _ _ _ us hl => match us, hl with | [_], _ => rfl
  have F41 := fun_mk (st := sLaw) l41 c41 k41
  have Zc : TxtC K mg C := ⟨⟨pg, hd, po, sa⟩, nA, nB, PySem.W.mg_of X G aC⟩
  have Y1 := fun_mk (st := s_init) yl1 yc1 yk1
  have yb1 := Y1.binds (ps := ["self", "alone", "both"]) fun _ _ _ _ _ _ us hl => match us, hl with | [_, _, _], _ => rfl
  have Y2 := fun_mk (st := s_inputs) yl2 yc2 yk2
  have yb2 := Y2.binds (ps := ["self", "hand"]) fun _ _ _ _ _ _ us hl => match us, hl with | [_, _], _ => rfl
  have Y3 := fun_mk (st := s_pairs) yl3 yc3 yk3
  have yb3 := Y3.binds (ps := ["self"]) fun _ _ _ _ _ _ us hl => match us, hl with | [_], _ => rfl
  have Y4 := fun_mk (st := s_eq) yl4 yc4 yk4
  have yb4 := Y4.binds (ps := ["self", "other"]) fun _ _ _ _ _ _ us hl => match us, hl with | [_, _], _ => rfl
  have m := fun {n : Str} {v : Value} (e : PySem.W.nsIn K mainGlobals n = some (some v)) => PySem.W.mg_of X G e
  have mz := fun {n : Str} (e : PySem.W.nsIn K mainGlobals n = some none) => PySem.W.mg_none_of X G e
  have T : Txt K mg := ⟨mz z0, mz z1, mz z2, mz z3, mz z4, mz z5, mz z6, mz z7, mz z8, mz z9⟩
  have T2 : Txt2 K mg := ⟨mz z10, mz z11, mz z12, mz z13, mz z14⟩
  have U : TxtH K mg := ⟨_, m t0, fun H => .inr ⟨_, _, _, u0, rfl, rfl, (by show 2 ≤ sizeLine; decide), .cons ⟨_, rfl⟩ (.cons ⟨_, rfl⟩ .nil)⟩⟩
  have B3 : TB.TxtB K mg := ⟨⟨_, m i3⟩, ⟨_, m i4⟩⟩
  have R3 := raiseB_ok (mg := mg) r_cW (m n0) q_cW kk_cW
  obtain ⟨qk, Bs⟩ := beB_ok q7
  have EC : EqC K C := ⟨q1, q2, q3, q4, q5, q6, qk.1, qk.2.1, qk.2.2.1, qk.2.2.2⟩
  refine ⟨PySem.W.fnOf "law" "law" (defArgs sLaw) (defBody sLaw) (defScope sLaw) .none kV41 dc41 pm41 an41 cd41 ct41, fun s v => .of_eq rfl, fun base _ _ => ?_⟩
  have e1 : Def l.prog w K mg base "is_whole" ["thing"] 1 (spWholeG K) f1 _ := ⟨ok_wholeG F1 T, b1, k1, m a1⟩
  have e2 : Def l.prog w K mg base "is_whole_within" ["thing", "least", "most"] 2 (spWithinG K) f2 _ := ⟨ok_withinG F2 e1, b2, k2, m a2⟩
  have e3 : Def l.prog w K mg base "is_hand" ["thing"] 3 (spHandG K) f3 _ := ⟨ok_handG F3 e2, b3, k3, m a3⟩
  have eRI : Def l.prog w K mg base "is_rising" ["things"] 1 (spRisI K) f4 _ := ⟨ok_risI F4 T, b4, k4, m a4⟩
  have eRP : Def l.prog w K mg base "is_rising" ["things"] 1 (spRisP K) f4 _ := ⟨ok_risP F4 T, b4, k4, m a4⟩
  have e5 : Def l.prog w K mg base "is_output" ["thing"] 3 (spOut K) f5 _ := ⟨ok_out F5 (m i0) e2, b5, k5, m a5⟩
  have e6 : Def l.prog w K mg base "is_outputs" ["thing"] 4 (spOuts K) f6 _ := ⟨ok_outs F6 T e5 eRI, b6, k6, m a6⟩
  have e7 : Def l.prog w K mg base "is_rows" ["thing"] 5 (spRows K) f7 _ := ⟨ok_rows F7 T e6, b7, k7, m a7⟩
  have e8 : Def l.prog w K mg base "is_alone" ["thing"] 6 (spAlone K) f8 _ := ⟨ok_alone F8 T e7, b8, k8, m a8⟩
  have e9 : Def l.prog w K mg base "is_output_pair" ["thing"] 4 (spPairB K) f9 _ := ⟨ok_outpair F9 T e5, b9, k9, m a9⟩
  have e10 : Def l.prog w K mg base "is_let" ["thing"] 5 (spLetB K) f10 _ := ⟨ok_let F10 T e9 eRP, b10, k10, m a10⟩
  have e11 : Def l.prog w K mg base "is_input_pair" ["thing", "alone"] 3 (spInp K) f11 _ := ⟨ok_inp F11 T U e2, b11, k11, m a11⟩
  have e12 : Def l.prog w K mg base "each_comes" ["both", "alone", "hand"] 1 (spEach K) f12 _ := ⟨ok_each F12 T T2, b12, k12, m a12⟩
  have e13 : Def l.prog w K mg base "is_both" ["thing", "alone"] 6 (spBoth K) f13 _ := ⟨ok_both F13 T T2 U e11 e10 e12, b13, k13, m a13⟩
  have tk : KDef l.prog w K mg base C "Task" ["self", "alone", "both"] 7 (spInit K C) y1 _ := ⟨ok_init Y1 T T2 Zc e8 e13, yb1, ⟨mkC, ya1, yi1, kC⟩, Zc.mg⟩
  have inp : MDef l.prog w K mg base C "inputs" nInputs 4 (spInputs K C) y2 _ := ⟨ok_inputs Y2 T Zc e3, yb2, ⟨ya2, yi2, yk2⟩⟩
  have inpB : MDef l.prog w K mg base C "inputs" TB.nInputs 4 (TB.spInputs K C) y2 _ := ⟨TB.ok_inputs Y2 T Zc e3, yb2, ⟨ya2, yi2, yk2⟩⟩
  have prsB : MDef l.prog w K mg base C "pairs" TB.nPairs 1 (TB.spPairs K C) y3 _ := ⟨TB.ok_pairs Y3 T2 Zc, yb3, ⟨ya3, yi3, yk3⟩⟩
  have eq : EqD l.prog w K mg base C 1 (spEq K C) y4 _ := ⟨ok_eq Y4 T Zc EC, yb4, ya4, yi4⟩
  have e14 : Def l.prog w K mg base "is_pair" ["task", "thing"] 4 (TB.spPair K C) f14 _ := ⟨TB.ok_ispair F14 T Zc e11, b14, k14, m a14⟩
  have e15 : Def l.prog w K mg base "is_row" ["thing", "many"] 4 (TB.spRow K) f15 _ := ⟨TB.ok_row F15 T e5, b15, k15, m a15⟩
  have e16 : Def l.prog w K mg base "is_chosen" ["task", "thing"] 5 (TB.spChosen K C) f16 _ := ⟨TB.ok_chosen F16 T U Zc e15 inpB, b16, k16, m a16⟩
  have e17 : Def l.prog w K mg base "alone_fault" ["task", "alone"] 5 (TB.spAloneF K C) f17 _ := ⟨TB.ok_af F17 T U Zc inpB, b17, k17, m a17⟩
  have e18 : Def l.prog w K mg base "is_answers" ["task", "thing"] 5 (TB.spIsAns K C) f18 _ := ⟨TB.ok_isans F18 T T2 Zc e14 e5, b18, k18, m a18⟩
  have e19 : Def l.prog w K mg base "is_boxed" ["task", "thing"] 6 (TB.spIsBoxed K C) f19 _ := ⟨TB.ok_isboxed F19 T Zc e16 e18, b19, k19, m a19⟩
  have e20 : Def l.prog w K mg base "is_answered" ["task", "pair", "hand", "output"] 1 (TB.spAnswered K C) f20 _ := ⟨TB.ok_answered F20 Zc, b20, k20, m a20⟩
  have e21 : Def l.prog w K mg base "at_odds" ["task", "hand", "at", "output"] 2 (TB.spOdds K C) f21 _ := ⟨TB.ok_odds F21 T Zc e20 prsB, b21, k21, m a21⟩
  have e22 : Def l.prog w K mg base "answers_to" ["task", "hand", "alone"] 2 (TB.spAnsTo K C) f22 _ := ⟨TB.ok_ansto F22 T Zc prsB, b22, k22, m a22⟩
  have e23 : Def l.prog w K mg base "boxed" ["task"] 5 (TB.spBoxed K C) f23 _ := ⟨TB.ok_boxed F23 T U Zc e21 e22 inpB, b23, k23, m a23⟩
  have e24 : Def l.prog w K mg base "answers_fault" ["task", "hand", "alone", "answers"] 2 (TB.spAnsF K C) f24 _ := ⟨TB.ok_ansf F24 T Zc prsB, b24, k24, m a24⟩
  have e25 : Def l.prog w K mg base "boxed_fault" ["task", "thing"] 7 (TB.spBoxF K C) f25 _ := ⟨TB.ok_boxf F25 T U Zc e19 e17 e24, b25, k25, m a25⟩
  have e26 : Def l.prog w K mg base "boxed_bar_fault" ["task", "thing"] 5 spNo f26 _ := ⟨ok_no, b26, k26, m a26⟩
  have e27 : Def l.prog w K mg base "winner" ["weaving"] 1 TB.spWin f27 _ := ⟨TB.ok_win F27 T B3, b27, k27, m a27⟩
  have e28 : Def l.prog w K mg base "is_boxed_weaving" ["thing"] 4 TB.spBW f28 _ := ⟨TB.ok_bw F28 T T2 U B3 e3 e27, b28, k28, m a28⟩
  have e29 : Def l.prog w K mg base "tell_boxed" ["task", "boxed", "inputs", "weaving"] 7 (TB.spTellOk C) f29 _ := ⟨lower (sp := TB.spTell C cW) (TB.ok_tell F29 T U B3 R3 e19 e14 e28 e27) (fun vs H Q E h => TB.tell_ok vs H Q E h), b29, k29, m a29⟩
  have e38 : Def l.prog w K mg base "_law_cell_at" ["_law_script", "_law_k"] 1 (spCell K) f38 _ := ⟨ok_cell F38 T, b38, k38, m a38⟩
  have e39 : Def l.prog w K mg base "_law_digit" ["_law_state", "_law_base"] 1 spDigit f39 _ := ⟨ok_digit F39 T, b39, k39, m a39⟩
  have N7 : TxtN mg := ⟨mz z15, ⟨_, m i2⟩⟩
  have M7 : ∃ t, mg "MOST_JOINED" = some (.int 7 t) := ⟨_, m i1⟩
  have e30 : Def l.prog w K mg base "swapped" ["task"] 9 (spSwap K C) f30 _ := ⟨ok_swp F30 T2 Zc tk, b30, k30, m a30⟩
  have e31 : Def l.prog w K mg base "greatest_output" ["task"] 1 (spGreat C) f31 _ := ⟨ok_gr F31 T2 Zc, b31, k31, m a31⟩
  have e32 : Def l.prog w K mg base "joint_output" ["x", "y"] 1 spJo f32 _ := ⟨ok_jo F32 M7, b32, k32, m a32⟩
  have e33 : Def l.prog w K mg base "joint_rows" ["rows", "others"] 2 spJrows f33 _ := ⟨ok_jr F33 e32, b33, k33, m a33⟩
  have e34 : Def l.prog w K mg base "joint_let" ["let", "more"] 2 spJlet f34 _ := ⟨ok_jl F34 T2 e32, b34, k34, m a34⟩
  have e35 : Def l.prog w K mg base "joint" ["task", "other"] 9 (spJoint C) f35 _ := ⟨ok_jn F35 U T2 Zc M7 e31 e33 e34 inp tk, b35, k35, m a35⟩
  have e36 : Def l.prog w K mg base "near" ["n"] 9 (spNear C) f36 _ := ⟨ok_near F36 T N7 e2 tk, b36, k36, m a36⟩
  have e37 : Def l.prog w K mg base "apart" ["n"] 9 (spApart C) f37 _ := ⟨ok_apart F37 T N7 e2 tk, b37, k37, m a37⟩
  have e40 : Def l.prog w K mg base "_law_house" ["_law_state"] 2 spHouse f40 _ := ⟨ok_ho F40 T e39, b40, k40, m a40⟩
  exact ok_law F41 T T2 Zc EC e38 e40 tk (kb_init Y1) eq inp (kb_inputs Y2) e39 e30 ⟨e30.G, kb_swapped F30, k30, m a30⟩ e35 ⟨e35.G, kb_joint F35, k35, m a35⟩ e36 ⟨e36.G, kb_near F36, k36, m a36⟩ e37 ⟨e37.G, kb_apart F37, k37, m a37⟩ e23 ⟨e23.G, kb_boxed F23, k23, m a23⟩ e26 ⟨e26.G, kb_boxed_bar_fault F26, k26, m a26⟩ e25 ⟨e25.G, kb_boxed_fault F25, k25, m a25⟩ e29 ⟨e29.G, kb_tell_boxed F29, k29, m a29⟩
theorem walk {l : PySem.W.OpenLaw} {q : Program} {loose : List Str} {XP : (Str → Option Value) → Heap → Prop} {YP : World → Heap → Prop} {d : DefRec} {K : Params → PySem.W.Frag} (hn : l.most = some 63) (hdf : d.params.defaults = [])
    (hY : ∀ (w : World) (h : Heap), YP w h → (K w.params).In h)
    (F : ∀ (w : World) (mg : Str → Option Value) (fa : Addr) (h : Heap), (K w.params).In h → h.Ns mainGlobals mg → mg d.name = some (.ref fa) →
      ∃ fd : FuncData, (∀ (s : Shared) (u : Value), BindsTo s fd ⟨[u], []⟩ [("_law_script", u)]) ∧ ∀ base : Heap, (K w.params).In base → base.Ns mainGlobals mg → FnOk l.prog w (K w.params) mg base CX0 11 fa fd ["_law_script"] (spLaw (K w.params))) :
    PySem.W.WalkO q loose XP YP l.row.toRowW d [] (fun f vs => PySem.call f vs) :=
  L2.walk_of (n := 63) (k := 11) (x := "_law_script") (CX := fun _ => CX0) (sp := fun w => spLaw (K w.params)) hn (by decide) hdf ⟨rfl, by decide, by decide⟩ hY F (fun _ _ a ns hl _ hS => ⟨a, ns, rfl, hS, hl, fun _ => rfl⟩) fun _ _ _ _ _ z => z
end TA
open PySem PySem.W PyProof.Rows
set_option maxRecDepth 100000 in
set_option maxHeartbeats 0 in
theorem PySem.Challenge.cw_twoalone_k04_tasks_and_boxes_by_names_holds : PySem.Challenge.rw_twoalone_k04_tasks_and_boxes_by_names.Holds := by
  w_on; o_law; k_head; (case hw => w_witness2)
  k_fill
  refine TA.walk (l := PySem.Challenge.rw_twoalone_k04_tasks_and_boxes_by_names) rfl rfl (fun w h Y => PySem.W.kIn_of Y) ?F
  case F =>
    intro w mg fa h KX G hmg
    refine' TA.all_mk KX G hmg ?aC ?ya1 ?yi1 ?yl1 ?yc1 ?yk1 ?ya2 ?yi2 ?yl2 ?yc2 ?yk2 ?ya3 ?yi3 ?yl3 ?yc3 ?yk3 ?ya4 ?yi4 ?yl4 ?yc4 ?yk4 ?pg ?hd ?po ?sa ?mkC ?kC ?nA ?nB ?a1 ?l1 ?c1 ?k1 ?a2 ?l2 ?c2 ?k2 ?a3 ?l3 ?c3 ?k3 ?a4 ?l4 ?c4 ?k4 ?a5 ?l5 ?c5 ?k5 ?a6 ?l6 ?c6 ?k6 ?a7 ?l7 ?c7 ?k7 ?a8 ?l8 ?c8 ?k8 ?a9 ?l9 ?c9 ?k9 ?a10 ?l10 ?c10 ?k10 ?a11 ?l11 ?c11 ?k11 ?a12 ?l12 ?c12 ?k12 ?a13 ?l13 ?c13 ?k13 ?a14 ?l14 ?c14 ?k14 ?a15 ?l15 ?c15 ?k15 ?a16 ?l16 ?c16 ?k16 ?a17 ?l17 ?c17 ?k17 ?a18 ?l18 ?c18 ?k18 ?a19 ?l19 ?c19 ?k19 ?a20 ?l20 ?c20 ?k20 ?a21 ?l21 ?c21 ?k21 ?a22 ?l22 ?c22 ?k22 ?a23 ?l23 ?c23 ?k23 ?a24 ?l24 ?c24 ?k24 ?a25 ?l25 ?c25 ?k25 ?a26 ?l26 ?c26 ?k26 ?a27 ?l27 ?c27 ?k27 ?a28 ?l28 ?c28 ?k28 ?a29 ?l29 ?c29 ?k29 ?a30 ?l30 ?c30 ?k30 ?a31 ?l31 ?c31 ?k31 ?a32 ?l32 ?c32 ?k32 ?a33 ?l33 ?c33 ?k33 ?a34 ?l34 ?c34 ?k34 ?a35 ?l35 ?c35 ?k35 ?a36 ?l36 ?c36 ?k36 ?a37 ?l37 ?c37 ?k37 ?a38 ?l38 ?c38 ?k38 ?a39 ?l39 ?c39 ?k39 ?a40 ?l40 ?c40 ?k40 ?a41 ?l41 ?c41 ?k41 ?z0 ?z1 ?z2 ?z3 ?z4 ?z5 ?z6 ?z7 ?z8 ?z9 ?z10 ?z11 ?z12 ?z13 ?z14 ?z15 ?i0 ?i1 ?i2 ?i3 ?i4 ?t0 ?u0 ?n0 ?q_cW ?kk_cW ?r_cW ?q1 ?q2 ?q3 ?q4 ?q5 ?q6 ?q7
    (case aC => k_is); (case ya1 => k_is); (case yi1 => k_is); (case yl1 => k_is); (case yc1 => k_is); (case yk1 => k_is); (case ya2 => k_is); (case yi2 => k_is); (case yl2 => k_is); (case yc2 => k_is); (case yk2 => k_is); (case ya3 => k_is); (case yi3 => k_is); (case yl3 => k_is); (case yc3 => k_is); (case yk3 => k_is); (case ya4 => k_is); (case yi4 => k_is); (case yl4 => k_is); (case yc4 => k_is); (case yk4 => k_is); (case pg => k_is); (case hd => k_is); (case po => k_is); (case sa => k_is); (case mkC => k_is); (case kC => k_is); (case nA => k_is); (case nB => k_is)
    (case a1 => k_is); (case l1 => k_is); (case c1 => k_is); (case k1 => k_is); (case a2 => k_is); (case l2 => k_is); (case c2 => k_is); (case k2 => k_is); (case a3 => k_is); (case l3 => k_is); (case c3 => k_is); (case k3 => k_is); (case a4 => k_is); (case l4 => k_is); (case c4 => k_is); (case k4 => k_is); (case a5 => k_is); (case l5 => k_is); (case c5 => k_is); (case k5 => k_is); (case a6 => k_is); (case l6 => k_is); (case c6 => k_is); (case k6 => k_is); (case a7 => k_is); (case l7 => k_is); (case c7 => k_is); (case k7 => k_is); (case a8 => k_is); (case l8 => k_is); (case c8 => k_is); (case k8 => k_is); (case a9 => k_is); (case l9 => k_is); (case c9 => k_is); (case k9 => k_is); (case a10 => k_is); (case l10 => k_is); (case c10 => k_is); (case k10 => k_is); (case a11 => k_is); (case l11 => k_is); (case c11 => k_is); (case k11 => k_is); (case a12 => k_is); (case l12 => k_is); (case c12 => k_is); (case k12 => k_is); (case a13 => k_is); (case l13 => k_is); (case c13 => k_is); (case k13 => k_is); (case a14 => k_is); (case l14 => k_is); (case c14 => k_is); (case k14 => k_is); (case a15 => k_is); (case l15 => k_is); (case c15 => k_is); (case k15 => k_is); (case a16 => k_is); (case l16 => k_is); (case c16 => k_is); (case k16 => k_is); (case a17 => k_is); (case l17 => k_is); (case c17 => k_is); (case k17 => k_is); (case a18 => k_is); (case l18 => k_is); (case c18 => k_is); (case k18 => k_is); (case a19 => k_is); (case l19 => k_is); (case c19 => k_is); (case k19 => k_is); (case a20 => k_is); (case l20 => k_is); (case c20 => k_is); (case k20 => k_is); (case a21 => k_is); (case l21 => k_is); (case c21 => k_is); (case k21 => k_is); (case a22 => k_is); (case l22 => k_is); (case c22 => k_is); (case k22 => k_is); (case a23 => k_is); (case l23 => k_is); (case c23 => k_is); (case k23 => k_is); (case a24 => k_is); (case l24 => k_is); (case c24 => k_is); (case k24 => k_is); (case a25 => k_is); (case l25 => k_is); (case c25 => k_is); (case k25 => k_is); (case a26 => k_is); (case l26 => k_is); (case c26 => k_is); (case k26 => k_is); (case a27 => k_is); (case l27 => k_is); (case c27 => k_is); (case k27 => k_is); (case a28 => k_is); (case l28 => k_is); (case c28 => k_is); (case k28 => k_is); (case a29 => k_is); (case l29 => k_is); (case c29 => k_is); (case k29 => k_is); (case a30 => k_is); (case l30 => k_is); (case c30 => k_is); (case k30 => k_is); (case a31 => k_is); (case l31 => k_is); (case c31 => k_is); (case k31 => k_is); (case a32 => k_is); (case l32 => k_is); (case c32 => k_is); (case k32 => k_is); (case a33 => k_is); (case l33 => k_is); (case c33 => k_is); (case k33 => k_is); (case a34 => k_is); (case l34 => k_is); (case c34 => k_is); (case k34 => k_is); (case a35 => k_is); (case l35 => k_is); (case c35 => k_is); (case k35 => k_is); (case a36 => k_is); (case l36 => k_is); (case c36 => k_is); (case k36 => k_is); (case a37 => k_is); (case l37 => k_is); (case c37 => k_is); (case k37 => k_is); (case a38 => k_is); (case l38 => k_is); (case c38 => k_is); (case k38 => k_is); (case a39 => k_is); (case l39 => k_is); (case c39 => k_is); (case k39 => k_is); (case a40 => k_is); (case l40 => k_is); (case c40 => k_is); (case k40 => k_is); (case a41 => k_is); (case l41 => k_is); (case c41 => k_is); (case k41 => k_is); (case z0 => k_is); (case z1 => k_is); (case z2 => k_is); (case z3 => k_is); (case z4 => k_is); (case z5 => k_is); (case z6 => k_is); (case z7 => k_is); (case z8 => k_is); (case z9 => k_is); (case z10 => k_is); (case z11 => k_is); (case z12 => k_is); (case z13 => k_is); (case z14 => k_is); (case z15 => k_is); (case i0 => k_is); (case i1 => k_is); (case i2 => k_is); (case i3 => k_is); (case i4 => k_is); (case t0 => k_is); (case u0 => k_is); (case n0 => k_is); (case q_cW => k_exc); (case kk_cW => k_is); (case r_cW => kernel_rfl); (case q1 => k_is); (case q2 => k_is); (case q3 => k_is); (case q4 => k_is); (case q5 => k_is); (case q6 => k_is); (case q7 => kernel_rfl)
